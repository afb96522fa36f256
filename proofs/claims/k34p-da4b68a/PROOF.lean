import PyProof.Rows.All
import Wide.All
import OpenK.AllK
import Wide.FinOn
import Lean
import PyProof.EqAt
import PyProof.EqKinds
import PyProof.TupleCall
import PySem.Challenge.RW_calmword_k34_holds
set_option Elab.async false
set_option linter.all false
set_option maxRecDepth 100000
set_option maxHeartbeats 4000000
abbrev Aa:=@PySem.wpAny_bind
abbrev Ab:=@PySem.wpAny_pure
abbrev Ac:=@PySem.Heap.get?_push_of_some
abbrev Ad:=@List.length_map
abbrev Ae:=@List.not_mem_nil
abbrev Af:=@Nat.le_refl
abbrev Ag:=@List.getElem?_eq_some_iff
abbrev Ah:=@List.mem_singleton
abbrev Ai:=@PySem.Heap.get?_push_size
abbrev Aj:=@List.size_toArray
abbrev Ak:=@List.getD_eq_getElem?_getD
abbrev Al:=@PySem.Heap.lt_size
abbrev Am:=@List.getElem?_eq_getElem
abbrev An:=@Nat.succ.inj
abbrev Ao:=@Nat.ne_of_lt
abbrev Ap:=@if_pos
abbrev Aq:=@PySem.sizeLine_eq
abbrev Ar:=@List.mem_cons
abbrev At:=@if_neg
abbrev Au:=@PySem.Paired.length
abbrev Av:=@Option.some.inj
abbrev Aw:=@List.length_append
abbrev Ax:=@List.getElem?_map
abbrev Ay:=@List.mem_map
abbrev Az:=@PySem.Heap.size_push
abbrev A0:=@Nat.lt_of_lt_of_le
abbrev A1:=@Nat.succ_ne_zero
abbrev A2:=@List.mem_append_right
abbrev A3:=@PySem.W.mg_of
abbrev A4:=@Bool.false_ne_true
abbrev A5:=@List.length_take
abbrev A6:=@List.mem_of_getElem?
abbrev A7:=@PySem.F.slot_list_append
abbrev A8:=@PySem.F.type_list_append
abbrev A9:=@List.map_cons
abbrev Im:=@List.mem_cons_of_mem
abbrev Io:=@Nat.le_trans
abbrev Ip:=@List.map_map
abbrev Iq:=@List.take_of_length_le
abbrev Ir:=@decide_eq_false
abbrev Is:=@List.mem_append
abbrev Iu:=@PySem.Heap.get?_update_other
abbrev Iv:=@PySem.PassesOwn.never
abbrev Iw:=@Bool.false_eq_true
abbrev Iy:=@PySem.W.mg_none_of
abbrev Iz:=@Bool.and_eq_true
abbrev I0:=@List.map_append
abbrev Oa:=@List.mem_cons_self
abbrev Ob:=@congrArg
abbrev Oc:=@PySem.wpAny_newObj_type
abbrev Od:=@PySem.Around.under_plainId
abbrev Oe:=@PySem.Heap.get?_update_self
abbrev Of:=@List.getElem?_eq_none
abbrev Og:=@Nat.lt_succ_self
abbrev Oh:=@List.take_length
abbrev Oi:=@PySem.wpAny_truthy_bool
abbrev Oj:=@List.getElem?_append_left
abbrev Ol:=@decide_eq_true
abbrev Om:=@PySem.wpAny_seqItems
abbrev On:=@PySem.wpAny_holding
abbrev Oo:=@PySem.wpAny_ite_split
abbrev Op:=@PySem.wpAny_call_entry
abbrev Oq:=@List.idxOf_lt_length_of_mem
abbrev Os:=@PyProof.Rows.slot_tuple_getitem
abbrev Ot:=@PySem.codeAny_builtin
abbrev Ou:=@Nat.zero_le
abbrev Ov:=@List.getElem_mem
abbrev Ow:=@PySem.F.plain_max_loop
abbrev Ox:=@PySem.wpAny_mono
abbrev Oy:=@PySem.W.kia_one
abbrev Oz:=@PySem.wpAny_callSpecial?_slot
abbrev O0:=@List.any_eq_true
abbrev O1:=@List.getElem?_append_right
abbrev O2:=@List.take_succ
abbrev O3:=@PySem.wpAny_pyIter_list
abbrev O4:=@Nat.lt_succ_of_lt
abbrev O5:=@beq_eq_false_iff_ne
abbrev O6:=@if_false
abbrev O7:=@PySem.F.called_set
abbrev O8:=@Nat.lt_irrefl
abbrev O9:=@PySem.Paired.snoc
abbrev Ua:=@PySem.plainId_quiet
abbrev Ub:=@List.mem_range
abbrev Uc:=@List.mem_append_left
abbrev Ud:=@List.length_eq_zero_iff
abbrev Ue:=@Bool.eq_false_iff
abbrev Uf:=@PyProof.Rows.callWith_type1
abbrev Ug:=@List.append_nil
abbrev Uh:=@List.nodup_cons
abbrev Ui:=@List.forIn_cons
abbrev Uj:=@if_true
abbrev Uk:=@Nat.ne_of_gt
abbrev Ul:=@PySem.wpAny_field
abbrev Um:=@Option.isSome_iff_exists
abbrev Uo:=@PySem.wpAny_comprehension_free
abbrev Up:=@Ne.symm
abbrev Uq:=@PySem.Heap.SameBut.update
abbrev Ur:=@PySem.wpAny_setField
abbrev Us:=@beq_iff_eq
abbrev Ut:=@Option.map_eq_some_iff
abbrev Uu:=@PySem.wpAny_Call_Name_kw
abbrev Uv:=@PySem.wpAny_setField_rec
abbrev Uw:=@PyProof.Rows.F.plain_set_update_loop
abbrev Ux:=@PySem.Obj.data_mapFields
abbrev Uy:=@List.getElem?_take
abbrev Uz:=@List.mem_filter
abbrev U0:=@PySem.wpAny_passesOwn
abbrev U1:=@Bool.eq_iff_iff
abbrev U2:=@PySem.wpAny_loadPart'
abbrev U3:=@Array.getElem?_toList
abbrev U4:=@List.append_assoc
abbrev U5:=@PySem.wpAny_setState_of
abbrev U6:=@PySem.wpAny_rule
abbrev U7:=@List.mem_of_mem_take
abbrev U8:=@PySem.F.args_tuple_add_2
abbrev U9:=@PySem.wpAny_typeOf
abbrev Wa:=@beq_self_eq_true
abbrev Wb:=@PySem.wpAny_isInstance
abbrev Wc:=@PySem.wpAny_askSetting
abbrev Wd:=@PySem.mem_of_lookup
abbrev We:=@List.map_congr_left
abbrev Wf:=@PySem.F.entry_tuple_add
abbrev Wg:=@PySem.wpAny_standAt
abbrev Wh:=@Nat.not_lt_zero
abbrev Wi:=@PySem.F.slot_tuple_add
abbrev Wj:=@PySem.F.entry_max_loop
abbrev Wk:=@PySem.codeAny_mono
abbrev Wl:=@PySem.F.slot_zip_next
abbrev Wm:=@PySem.wpAny_tryCatch
abbrev Wn:=@PySem.wpAny_pyIter_zip
abbrev Wo:=@List.mem_of_mem_drop
abbrev Wp:=@List.length_eraseIdx_of_lt
abbrev Wq:=@Nat.le_succ
abbrev Wr:=@PySem.wpAny_letGo
abbrev Ws:=@PySem.wpAny_updateSeq
abbrev Wt:=@Nat.le_of_lt
abbrev Wu:=@PySem.wpAny_pyIter_tuple
abbrev Wv:=@Nat.succ_mul
abbrev Ww:=@List.map_nil
abbrev Wx:=@PySem.F.slot_list_getattribute
abbrev Wy:=@PyProof.Rows.F.entry_set_update_loop
abbrev Wz:=@List.pairwise_cons
abbrev W0:=@PySem.F.slot_tuple_index
abbrev W1:=@PySem.F.type_tuple_index
abbrev W2:=@PySem.isSubtype_type
abbrev W3:=@PySem.wpAny_assign_Name
abbrev W4:=@List.foldl_append
abbrev W5:=@PySem.F.args_tuple_iterator_next_1
abbrev W6:=@PySem.wpAny_loadPart_at
abbrev W7:=@PySem.fits_of_scanBound
abbrev W8:=@List.flatMap_cons
abbrev W9:=@PySem.sizeLine_eq
abbrev Ya:=@PySem.Calls.callWith_builtin
abbrev Yb:=@PySem.codeAny_compStart_list
abbrev Yc:=@PySem.F.entry_tuple_iterator_next
abbrev Yd:=@Bool.not_true
abbrev Ye:=@PySem.noFill_tuple_add
abbrev Yf:=@List.length_drop
abbrev Yg:=@List.all_eq_true
abbrev Yh:=@or_false
abbrev Yi:=@PySem.exec_Assign_Name_used
abbrev Yj:=@List.length_filter_le
abbrev Yk:=@PySem.builtinLookup_eq_fast
abbrev Yl:=@PySem.Obj.isFreed_of_fields
abbrev Ym:=@Array.size_eq_one_iff
abbrev Yn:=@PySem.F.slot_str_join
abbrev Yo:=@PySem.F.type_str_join
abbrev Yp:=@PySem.wpAny_execs_nil
abbrev Yq:=@PySem.Calls.evalArgs_plain
abbrev Yr:=@PySem.call_meets
abbrev Ys:=@PySem.Walks.list
abbrev Yt:=@List.range_succ
abbrev Yu:=@PySem.wpAny_updateSeq_pair
abbrev Yv:=@PySem.Draws.list
abbrev Yw:=@PySem.pushCells_keeps
abbrev Yx:=@Nat.min_eq_left
abbrev Yy:=@Nat.mul_le_mul_right
abbrev Yz:=@PySem.Value.isStrOf_shape
abbrev Y0:=@PySem.W.plainGet_of
abbrev Y1:=@List.not_lt
abbrev Y2:=@PySem.Calls.spliced_cons
abbrev Y3:=@PySem.W.callWith_K
abbrev Y4:=@PySem.wpAny_tupleItemsOf
abbrev Y5:=@Int.emod_lt_of_pos
abbrev Y6:=@PySem.seq_tuple_add
abbrev Y7:=@PySem.wpAny_onRaise
abbrev Y8:=@PySem.wpAny_attempt
namespace L2
open PySem PySem.Spec PyProof.Rows
abbrev Key:=Sum Int Str
def jet:Key->Value->Bool
 |.inl k,v=>Value.isInt k v
 |.inr x,v=>Value.isStrOf x v
def keyH(w:World):Key->Int
 |.inl k=>hashInt k
 |.inr x=>hashStr w x
theorem jcr:∀{k:Key}{v:Value},jet k v=true->(∃i t,k=Sum.inl i/\v=Value.int i t)\/(∃x t,k=Sum.inr x/\v=Value.str x t)
 |.inl i,v,h=>by
  obtain⟨t,e⟩:=Value.isInt_shape (k:=i) (v:=v) h
  exact .inl ⟨i,t,rfl,e⟩
 |.inr x,v,h=>by
  obtain⟨t,e⟩:=Yz (x:=x) (v:=v) h
  exact .inr ⟨x,t,rfl,e⟩
theorem jmj(i:Int)(t:Tok):jet (.inl i) (.int i t)=true:=by simp[jet,Value.isInt]
theorem jmk(x:Str)(t:Tok):jet (.inr x) (.str x t)=true:=by simp[jet,Value.isStrOf]
theorem jpt(a b:Int):decide ((Sum.inl a:Key)=Sum.inl b)=(a == b):=by
 by_cases e:a=b
 ·subst e;simp
 ·have h:¬(Sum.inl a:Key)=Sum.inl b:=λq=>e (Sum.inl.inj q)
  rw[Ir h]
  exact(O5.mpr e).symm
theorem jpw(a b:Str):decide ((Sum.inr a:Key)=Sum.inr b)=decide (a=b):=by
 by_cases e:a=b
 ·subst e;simp
 ·have h:¬(Sum.inr a:Key)=Sum.inr b:=λq=>e (Sum.inr.inj q)
  rw[Ir h,Ir e]
theorem jpu(a:Int)(b:Str):decide ((Sum.inl a:Key)=Sum.inr b)=false:=Ir (λq=>nomatch q)
theorem jpv(a:Str)(b:Int):decide ((Sum.inr a:Key)=Sum.inl b)=false:=Ir (λq=>nomatch q)
def jck(prog:Program)(w:World):PySem.KeyKind prog w Key where
 is:=jet
 hash:=keyH w
 inj:=λv a b ha hb=>by
  rcases jcr ha with⟨i,t,rfl,rfl⟩|⟨x,t,rfl,rfl⟩
  ·rcases jcr hb with⟨j,u,rfl,e⟩|⟨y,u,rfl,e⟩
   ·injection e with e1 _;rw[e1]
   ·exact nomatch e
  ·rcases jcr hb with⟨j,u,rfl,e⟩|⟨y,u,rfl,e⟩
   ·exact nomatch e
   ·injection e with e1 _;rw[e1]
 byValue:=λk v h=>by
  rcases jcr h with⟨i,t,rfl,rfl⟩|⟨x,t,rfl,rfl⟩ <;> rfl
 pyHash:=λhv h=>by
  rcases jcr hv with⟨i,t,rfl,rfl⟩|⟨x,t,rfl,rfl⟩
  ·exact wpAny_pyHash_int h
  ·exact wpAny_pyHash_str h
 eqBool:=λhu hv h=>by
  rcases jcr hu with⟨i,t,rfl,rfl⟩|⟨x,t,rfl,rfl⟩
  ·rcases jcr hv with⟨j,u,rfl,rfl⟩|⟨y,u,rfl,rfl⟩
   ·rw[jpt]at h;exact wpAny_eqBool_int h
   ·rw[jpu]at h;exact SeqAt.EqAt.int_str i t y u _ _ _ _ h
  ·rcases jcr hv with⟨j,u,rfl,rfl⟩|⟨y,u,rfl,rfl⟩
   ·rw[jpv]at h;exact SeqAt.EqAt.str_int x t j u _ _ _ _ h
   ·rw[jpw]at h;exact wpAny_eqBool_str h
 «strs»:=λk x t v h=>by
  rcases jcr h with⟨i,u,rfl,e⟩|⟨y,u,rfl,e⟩
  ·exact nomatch e
  ·injection e with e1 _
   subst e1
   cases v <;> rfl
theorem jjv(prog:Program)(w:World)(i:Int)(t:Tok):(jck prog w).is (.inl i) (.int i t)=true:=jmj i t
theorem jjw(prog:Program)(w:World)(x:Str)(t:Tok):(jck prog w).is (.inr x) (.str x t)=true:=jmk x t
inductive V where
 |non|bl (b:Bool)|int (i:Int)|str (x:Str)|byt (b:Array UInt8)|flt (b:UInt64)|ref (a:Addr)|ty (n:String)
 deriving DecidableEq
def RelV:V->Value->Prop
 |.non,u=>u=Value.none
 |.bl b,u=>u=Value.bool b
 |.int i,u=>∃t,u=Value.int i t
 |.str x,u=>∃t,u=Value.str x t
 |.byt b,u=>∃t,u=Value.bytes b t
 |.flt b,u=>∃t,u=Value.float b t
 |.ref a,u=>u=Value.ref a
 |.ty n,u=>u=Value.type n
abbrev Vals:List V->List Value->Prop:=Paired RelV
theorem Vals.length{xs:List V}{us:List Value}(r:Vals xs us):xs.length=us.length:=Au r
theorem Vals.get:∀{xs:List V}{us:List Value}{i:Nat}{x:V},Vals xs us->xs[i]?=some x->∃u,us[i]?=some u/\RelV x u
 |_,_,_,_,.nil,e=>by simp at e
 |_,_,0,_,.cons r _,e=>by simp at e;subst e;exact⟨_,rfl,r⟩
 |_,_,i+1,x,.cons _ t,e=>by
  obtain⟨u,h1,h2⟩:=Vals.get (i:=i) (x:=x) t (by simpa using e)
  exact⟨u,by simpa using h1,h2⟩
theorem Vals.set{x:V}{u:Value}(r:RelV x u):∀{xs:List V}{us:List Value}(i:Nat),Vals xs us->Vals (xs.set i x) (us.set i u)
 |_,_,_,.nil=>.nil
 |_,_,0,.cons _ t=>.cons r t
 |_,_,i+1,.cons q t=>.cons q (Vals.set r i t)
theorem Vals.append:∀{xs ys:List V}{us ws:List Value},Vals xs us->Vals ys ws->Vals (xs++ys) (us++ws)
 |_,_,_,_,.nil,s=>s
 |_,_,_,_,.cons r t,s=>.cons r (Vals.append t s)
theorem Vals.take:∀{xs:List V}{us:List Value}(n:Nat),Vals xs us->Vals (xs.take n) (us.take n)
 |_,_,0,_=>.nil
 |_,_,_+1,.nil=>.nil
 |_,_,n+1,.cons r t=>.cons r (Vals.take n t)
theorem Vals.drop:∀{xs:List V}{us:List Value}(n:Nat),Vals xs us->Vals (xs.drop n) (us.drop n)
 |_,_,0,r=>r
 |_,_,_+1,.nil=>.nil
 |_,_,n+1,.cons _ t=>Vals.drop n t
def RelO:Option V->Option Value->Prop
 |some v,some u=>RelV v u
 |none,none=>True
 |_,_=>False
def KV{κ:Type}:List (κ×V)->List (κ×Value)->Prop:=Paired fun(p:κ×V) (q:κ×Value)=>p.1=q.1/\RelV p.2 q.2
def kV:Key->V
 |.inl i=>.int i
 |.inr x=>.str x
inductive HO where
  |lst (xs:List V)
  |tup (xs:List V)
  |dK (kvs:List (Key×V))|dT (kvs:List (List Key×V))
  |set (S:Int->Bool) (n:Nat)
  |ins (C dx:Addr) (fs:List (Str×V))
  |own (x:Addr)
  |xd (fs:List (Str×V))
  |met (f x:Addr)
  |rng (lo hi:Int)
  |frz (o:Obj) (u:HO)
  |tbl (ps:Array Value)
  |ext (φ:Heap->Prop)
abbrev Hp:=Addr->Option HO
def upd(H:Hp)(a:Addr)(o:HO):Hp:=λb=>if b=a then some o else H b
theorem jb{H:Hp}{a:Addr}{o:HO}:upd H a o a=some o:=by unfold upd;rw[Ap rfl]
theorem jd{H:Hp}{a b:Addr}{o:HO}(h:b≠a):upd H a o b=H b:=by unfold upd;rw[At h]
theorem jdb{H:Hp}{a:Addr}{o u:HO}:upd (upd H a o) a u=upd H a u:=by
 funext b;unfold upd;split <;> rfl
theorem jhv{H:Hp}{a b:Addr}{o u:HO}(h:H a=some o)(h':H b=some u)(d:o≠u):a≠b:=by
 intro e;subst e;rw[h]at h';exact d (Av h')
theorem je{H:Hp}{a b:Addr}{o:HO}(h:H a=some o)(h':H b=none):a≠b:=by
 intro e;subst e;rw[h]at h';cases h'
section
variable(P:Program)(w:World)
def ObjOk(H:Hp)(h:Heap)(a:Addr):HO->Prop
 |.lst xs=>xs.length<=sizeLine/\∃(its:List Value)(n:Nat),Vals xs its/\h.get? a=some {cls:=.type "list",data:=.seq its.toArray n}
 |.tup xs=>xs.length<=sizeLine/\∃its:List Value,Vals xs its/\IsTup h a its.toArray
 |.dK kvs=>kvs.length<=sizeLine/\(a == sysModules)=false/\∃vs,KV kvs vs/\h.DictOf (jck P w) a vs
 |.dT kvs=>kvs.length<=sizeLine/\(a == sysModules)=false/\∃xs:List (List Key×Addr×Value),
   Paired (fun(p:List Key×V) (q:List Key×Addr×Value)=>p.1=q.1/\H q.2.1=some (.tup (p.1.map kV))/\RelV p.2 q.2.2) kvs xs /\
   ∃o es ep,h.get? a=some o/\o.ExactDict/\o.data=.dict es ep/\es.toList=xs.map (entryOfKey (tupleKind (jck P w)))/\(xs.map (·.1)).Nodup
 |.set S n=>h.SetOf (intKind P w) a S n
 |.ins C dx fs=>H dx=some (.own a)/\fs.length<=1000/\dx≠a/\h.get? a=some (PySem.W.instObj C dx) /\
   ∃mA,h.Ns1 dx mA/\(∀f,RelO (fs.lookup f) (mA f))/\PySem.Within mA (fs.map (·.1))
 |.own _=>∃o,h.get? a=some o
 |.xd fs=>∃mA,h.Ns1 a mA/\∀f,RelO (fs.lookup f) (mA f)
 |.rng lo hi=>∃t u v,h.get? a=some {cls:=.type "range",data:=.fields #[.int lo t,.int hi u,.int 1 v]}
 |.frz o u=>h.get? a=some o/\ObjOk H h a u
 |.tbl ps=>h.get? a=some {cls:=.none,data:=.fields ps}
 |.met f x=>h.get? a=some (PySem.W.methodObj (.ref f) (.ref x))
 |.ext φ=>φ h/\(∃o,h.get? a=some o)/\∀h1 h2:Heap,φ h1->(∀o,h1.get? a=some o->h2.get? a=some o)->φ h2
def HOk(H:Hp)(h:Heap):Prop:=∀a o,H a=some o->ObjOk P w H h a o
end
section
variable{P:Program}{w:World}{H H':Hp}{h h':Heap}{a:Addr}{o:HO}
theorem ObjOk.lt(x:ObjOk P w H h a o):a<h.objs.size:=by
 cases o with
 |lst xs=>obtain⟨_,_,_,_,e⟩:=x;exact Al e
 |tup xs=>obtain⟨_,_,_,p⟩:=x;exact p.lt
 |dK kvs=>obtain⟨_,_,_,_,o,_,_,e,_⟩:=x;exact Al e
 |dT kvs=>obtain⟨_,_,_,_,o,_,_,e,_⟩:=x;exact Al e
 |set S n=>obtain⟨o,_,_,_,e,_⟩:=x;exact Al e
 |ins C dx fs=>obtain⟨_,_,_,e,_⟩:=x;exact Al e
 |own y=>obtain⟨_,e⟩:=x;exact Al e
 |xd fs=>obtain⟨_,⟨_,_,_,e,_⟩,_⟩:=x;exact Al e
 |rng lo hi=>obtain⟨_,_,_,e⟩:=x;exact Al e
 |frz ob u=>obtain⟨e,_⟩:=x;exact Al e
 |tbl ps=>exact Al (show h.get? a=some _ from x)
 |met f y=>exact Al (show h.get? a=some _ from x)
 |ext φ=>obtain⟨_,⟨_,e⟩,_⟩:=x;exact Al e
theorem Paired.mapP{α β:Type}{F G:α->β->Prop}:∀{l₁:List α}{l₂:List β},Paired F l₁ l₂->(∀a b,F a b->G a b)->Paired G l₁ l₂
 |_,_,.nil,_=>.nil
 |_,_,.cons r t,f=>.cons (f _ _ r) (Paired.mapP t f)
theorem ObjOk.stay(x:ObjOk P w H h a o)(k:∀b u,(b=a\/H b=some (.own a))->h.get? b=some u->h'.get? b=some u)
  (ho:∀b,H b=some (.own a)->H' b=some (.own a)) (ht:∀b xs,H b=some (.tup xs)->H' b=some (.tup xs)):ObjOk P w H' h' a o:=by
 induction o with
 |lst xs=>obtain⟨z,its,n,r,e⟩:=x;exact⟨z,its,n,r,k _ _ (.inl rfl) e⟩
 |tup xs=>obtain⟨z,its,r,ob,e,c⟩:=x;exact⟨z,its,r,ob,k _ _ (.inl rfl) e,c⟩
 |dK kvs=>obtain⟨z,y,vs,r,ob,es,ep,e,c⟩:=x;exact⟨z,y,vs,r,ob,es,ep,k _ _ (.inl rfl) e,c⟩
 |dT kvs =>
  obtain⟨z,y,xs,r,ob,es,ep,e,c⟩:=x
  exact⟨z,y,xs,Paired.mapP r λp q z=>⟨z.1,ht _ _ z.2.1,z.2.2⟩,ob,es,ep,k _ _ (.inl rfl) e,c⟩
 |set S n=>obtain⟨ob,es,ep,t,e,c⟩:=x;exact⟨ob,es,ep,t,k _ _ (.inl rfl) e,c⟩
 |ins C dx fs =>
  obtain⟨d,z,ne,e,mA,⟨od,es,ep,e2,c⟩,r⟩:=x
  exact⟨ho _ d,z,ne,k _ _ (.inl rfl) e,mA,⟨od,es,ep,k _ _ (.inr d) e2,c⟩,r⟩
 |own y=>obtain⟨ob,e⟩:=x;exact⟨ob,k _ _ (.inl rfl) e⟩
 |xd fs=>obtain⟨mA,⟨od,es,ep,e,c⟩,r⟩:=x;exact⟨mA,⟨od,es,ep,k _ _ (.inl rfl) e,c⟩,r⟩
 |rng lo hi=>obtain⟨t,u,v,e⟩:=x;exact⟨t,u,v,k _ _ (.inl rfl) e⟩
 |frz ob u ih=>obtain⟨e,q⟩:=x;exact⟨k _ _ (.inl rfl) e,ih q⟩
 |tbl ps =>
  have e:h.get? a=some {cls:=.none,data:=.fields ps}:=x
  show h'.get? a=some {cls:=.none,data:=.fields ps}
  exact k a _ (.inl rfl) e
 |met f y =>
  have e:h.get? a=some (PySem.W.methodObj (.ref f) (.ref y)):=x
  show h'.get? a=some (PySem.W.methodObj (.ref f) (.ref y))
  exact k a _ (.inl rfl) e
 |ext φ=>obtain⟨p,⟨o,e⟩,st⟩:=x;exact⟨st _ _ p λo q=>k _ _ (.inl rfl) q,⟨o,k _ _ (.inl rfl) e⟩,st⟩
theorem HOk.lt(x:HOk P w H h)(e:H a=some o):a<h.objs.size:=(x a o e).lt
theorem HOk.fresh(x:HOk P w H h)(e:h.objs.size<=a):H a=none:=by
 cases q:H a with
 |none=>rfl
 |some u=>exact absurd (A0 (x.lt q) e) (O8 _)
theorem HOk.kept(x:HOk P w H h)(k:∀b u,h.get? b=some u->h'.get? b=some u):HOk P w H h':=λa o e =>
 (x a o e).stay (λb u _ q=>k b u q) (λ_ q=>q) λ_ _ q=>q
theorem HOk.laid(x:HOk P w H h)(k:∀b u,h.get? b=some u->h'.get? b=some u)(hp:h.objs.size<=a)(new:ObjOk P w (upd H a o) h' a o):HOk P w (upd H a o) h':=λb u e=>by
 have hn:=x.fresh hp
 by_cases hb:b=a
 ·subst hb;rw[jb]at e;cases e;exact new
 ·rw[jd hb]at e
  exact(x b u e).stay (λc v _ q=>k c v q) (λc q=>by rw[jd (je q hn)];exact q) λc xs q=>by rw[jd (je q hn)];exact q
end
def Rd(H:Hp)(a:Addr)(u:HO):Prop:=H a=some u\/∃o,H a=some (.frz o u)
theorem Rd.of{H:Hp}{a:Addr}{u:HO}(h:H a=some u):Rd H a u:=.inl h
theorem Rd.ok{P:Program}{w:World}{H:Hp}{h:Heap}{a:Addr}{u:HO}(r:Rd H a u)(x:HOk P w H h):ObjOk P w H h a u:=by
 rcases r with r|⟨o,r⟩
 ·exact x a u r
 ·obtain⟨_,q⟩:=x a _ r
  exact q
def Mut:Option HO->Prop
 |some (.lst _)=>True
 |some (.dK _)=>True
 |some (.dT _)=>True
 |some (.set _ _)=>True
 |some (.ins _ _ _)=>True
 |some (.ext _)=>True
 |_=>False
section
variable{P:Program}{w:World}{H:Hp}{h h':Heap}{x e:Addr}{o':HO}
theorem HOk.write(ok:HOk P w H h)(mu:Mut (H x))(he:e=x\/H e=some (.own x))(k:∀b u,b≠e->h.get? b=some u->h'.get? b=some u)(heo:∃u,h'.get? e=some u)
  (new:ObjOk P w (upd H x o') h' x o'):HOk P w (upd H x o') h':=λb u q=>by
 have nown:∀c y,H c=some (.own y)->c≠x:=λc y r z=>by subst z;rw[r]at mu;exact mu
 have ntup:∀c xs,H c=some (.tup xs)->c≠x:=λc xs r z=>by subst z;rw[r]at mu;exact mu
 by_cases hb:b=x
 ·subst hb;rw[jb]at q;cases q;exact new
 ·rw[jd hb]at q
  by_cases hbe:b=e
  ·have q':H b=some (.own x):=by
    rcases he with z|z
    ·exact absurd (hbe.trans z) hb
    ·rw[hbe];exact z
   rw[q]at q';cases q'
   obtain⟨v,hv⟩:=heo
   exact⟨v,by rw[hbe];exact hv⟩
  ·refine(ok b u q).stay (λc v hc r=>k c v ?_ r) (λc r=>by rw[jd (nown c b r)];exact r) λc xs r=>by rw[jd (ntup c xs r)];exact r
   rcases hc with rfl|hc
   ·exact hbe
   ·rintro rfl
    rcases he with z|z
    ·exact nown c b hc z
    ·rw[hc]at z;cases z;exact hb rfl
end
structure Un(fs ex:List Addr)(H H':Hp)(h h':Heap):Prop where
 keep:∀b o,h.get? b=some o->H b=none->b∉fs->b∉ex->h'.get? b=some o
 slot:∀b o,h.get? b=some o->H b=none->b∈fs->b∉ex->∃sl,h'.get? b=some {o with slots:=sl}
 free:∀b o,h.get? b=some o->H b=none->b∉ex->H' b=none
 there:∀b o,h.get? b=some o->b∉ex->∃o',h'.get? b=some o'
 tups:∀b xs,H b=some (.tup xs)->H' b=some (.tup xs)
 frzs:∀b o u,H b=some (.frz o u)->H' b=some (.frz o u)
 tbls:∀b ps,H b=some (.tbl ps)->∃more,H' b=some (.tbl (ps++more))
section
variable{fs fs' ex ex':List Addr}{H H1 H2:Hp}{h h1 h2 h':Heap}{a x e:Addr}{o:HO}
theorem Un.any(u:Un fs ex H H1 h h1){b:Addr}{ob:Obj}(q:h.get? b=some ob)(n:H b=none)(hx:b∉ex):∃sl,h1.get? b=some {ob with slots:=sl}:=by
 by_cases hb:b∈fs
 ·exact u.slot b ob q n hb hx
 ·exact⟨ob.slots,u.keep b ob q n hb hx⟩
theorem Un.kept(k:∀b u,h.get? b=some u->h'.get? b=some u):Un fs ex H H h h' :=
 ⟨λb ob q _ _ _=>k b ob q,λb ob q _ _ _=>⟨ob.slots,k b ob q⟩,λ_ _ _ n _=>n,λb ob q _=>⟨ob,k b ob q⟩,λ_ _ q=>q,λ_ _ _ q=>q,λ_ ps q=>⟨#[],by rw[q];simp⟩⟩
theorem Un.refl:Un fs ex H H h h:=Un.kept λ_ _ q=>q
theorem Un.laid(k:∀b u,h.get? b=some u->h'.get? b=some u)(hp:h.objs.size<=a)(hn:H a=none):Un fs ex H (upd H a o) h h' where
 keep:=λb u q _ _ _=>k b u q
 slot:=λb u q _ _ _=>⟨u.slots,k b u q⟩
 free:=λb u q n _=>by rw[jd (Ao (A0 (Al q) hp))];exact n
 there:=λb u q _=>⟨u,k b u q⟩
 tups:=λb xs q=>by rw[jd (je q hn)];exact q
 frzs:=λb u xs q=>by rw[jd (je q hn)];exact q
 tbls:=λb ps q=>⟨#[],by rw[jd (je q hn),q];simp⟩
theorem Un.write(mu:Mut (H x))(he:e=x\/H e=some (.own x))(k:∀b u,b≠e->h.get? b=some u->h'.get? b=some u)(heo:∃u,h'.get? e=some u):Un fs ex H (upd H x o) h h':=by
 have hx:∀b,H b=none->b≠x:=λb n z=>by subst z;rw[n]at mu;exact mu
 have hb:∀b,H b=none->b≠e:=λb n z=>by
  subst z
  rcases he with r|r
  ·exact hx b n r
  ·rw[n]at r;cases r
 have hm:∀b u,H b=some u->¬Mut (some u)->b≠x:=λb u q nm z=>by subst z;rw[q]at mu;exact nm mu
 refine⟨λb u q n _ _=>k b u (hb b n) q,λb u q n _ _=>⟨u.slots,k b u (hb b n) q⟩,λb u q n _=>by rw[jd (hx b n)];exact n,λb u q _=>?_,
  λb xs q=>by rw[jd (hm b _ q λz=>z)];exact q,λb u xs q=>by rw[jd (hm b _ q λz=>z)];exact q,λb ps q=>⟨#[],by rw[jd (hm b _ q λz=>z),q];simp⟩⟩
 by_cases hbe:b=e
 ·subst hbe;exact heo
 ·exact⟨u,k b u hbe q⟩
end
def trk(h:Heap)(H:Hp):List Addr:=(List.range h.objs.size).filter λa=>(H a).isSome
def hidT(h:Heap)(H:Hp):Heap:=PySem.W.hideAll h (trk h H)
theorem jmf(h:Heap)(H:Hp):(hidT h H).objs.size=h.objs.size:=PySem.W.hideAll_size _ _
theorem jnp{h:Heap}{H:Hp}{b:Addr}{o:Obj}(e:h.get? b=some o)(n:H b=none):(hidT h H).get? b=some o :=
 PySem.W.hideAll_get _ e λhm=>by
  have q:(H b).isSome=true:=(Uz.mp hm).2
  rw[n]at q;simp at q
theorem jo3{h:Heap}{H:Hp}{b:Addr}{o:Obj}(e:(hidT h H).get? b=some o):h.get? b=some o/\H b=none:=by
 have e':h.get? b=some o:=PySem.W.of_hideAll (trk h H) e
 refine⟨e',?_⟩
 cases q:H b with
 |none=>rfl
 |some x =>
  have hm:b∈trk h H:=Uz.mpr ⟨Ub.mpr (Al e'),by simp[q]⟩
  have z:(hidT h H).get? b=none:=PySem.W.hideAll_none (trk h H) hm
  rw[z]at e;cases e
structure Mod(K:PySem.W.Frag)(mg:Str->Option Value)(base:Heap):Prop where
 kin:K.In base
 glob:base.Ns mainGlobals mg
 blt:∃mb,base.Ns builtinsNs mb/\∀x:Str,x≠"__name__"->mb x=bootBuiltins x
 nolimit:base.NoLimit
structure Cx where
 prog:Program
 w:World
 K:PySem.W.Frag
 mg:Str->Option Value
 base:Heap
 A:Around
 N:List Str
 s₀:Shared
 H₀:Hp
 env:Env
 outer:List Env
 stack:List Env
 ex:List Addr
 fn:Str->Bool
 calm:Bool
 pn:List (Addr×Obj)
 xe:Value->Shared->Prop
def frs(l:List Env):List Addr:=l.filterMap (·.frame)
abbrev Cx.fs(X:Cx):List Addr:=frs X.outer
def Vis(sc:Scope)(x:Str):Prop:=sc.names.lookup x=some .local\/sc.names.lookup x=some .cell\/sc.names.lookup x=some .free
def Loc(sc:Scope)(x:Str):Prop:=sc.names.lookup x=some .local\/sc.names.lookup x=some .cell
def Look(env:Env)(h:Heap)(m:Str->Option Value)(x:Str)(u:Value):Prop :=
 (env.kindOf x=some .local/\m x=some u)\/((env.kindOf x=some .cell\/env.kindOf x=some .free)/\∃c,env.cells.lookup x=some c/\h.IsCell c (some u))
structure Cx.Ok(X:Cx):Prop where
 mod:Mod X.K X.mg X.base
 kind:X.env.scope.kind=.function
 glob:X.env.globals=mainGlobals
 blt:X.env.builtins=builtinsNs
 above:X.s₀.heap.objs.size<=X.env.locals
 inj:∀x y c,X.env.cells.lookup x=some c->X.env.cells.lookup y=some c->x=y
 has:∀x,(X.env.kindOf x=some .cell\/X.env.kindOf x=some .free)->∃c,X.env.cells.lookup x=some c
 cab:∀x c,X.fn x=true->X.env.cells.lookup x=some c->X.s₀.heap.objs.size<=c
 hd:X.calm=true->X.A.handled=none
 frames:X.A.frames=some X.stack
 stk:X.stack=X.outer\/(X.stack=X.env::X.outer/\X.env.frame=some X.env.locals)
 exf:∀b∈X.ex,b≠X.env.locals/\∀x c,X.env.cells.lookup x=some c->c≠b
 bs:∀b o,X.base.get? b=some o->X.s₀.heap.get? b=some o/\X.H₀ b=none
 bsz:X.base.objs.size<=X.s₀.heap.objs.size
 noex:∀b o,X.base.get? b=some o->b∉X.ex
 exfs:∀b∈X.ex,b∉X.fs
 funs:X.s₀.heap.FunFrames X.base X.outer
 frf:∀b∈X.fs,X.H₀ b=none
structure Inv(X:Cx)(pins:List (Addr×Obj))(σ:List (Option V))(H:Hp)(s:Shared):Prop where
 ok:X.Ok
 os:s.os=X.s₀.os
 bare:AllBare s.gens
 base:Un X.fs X.ex X.H₀ H X.s₀.heap s.heap
 loc:∃m,s.heap.Ns X.env.locals m/\∀(i:Nat)(x:Str)(v:V),X.N[i]?=some x->σ[i]?=some (some v)->Vis X.env.scope x->∃u,RelV v u/\Look X.env s.heap m x u
 cell:∀x c,X.env.cells.lookup x=some c->∃v,s.heap.IsCell c v
 free:H X.env.locals=none
 freeC:∀x c,X.env.cells.lookup x=some c->H c=none
 pin:∀p∈X.pn++pins,s.heap.get? p.1=some p.2/\H p.1=none/\p.1≠X.env.locals/\p.1∉X.fs/\∀v,p.2.data≠.cell v
 hok:HOk X.prog X.w H s.heap
 len:σ.length=X.N.length
section
variable{X:Cx}{pins:List (Addr×Obj)}{σ:List (Option V)}{H H':Hp}{s:Shared}{h':Heap}
theorem Cx.Ok.nofr(ok:X.Ok){b:Addr}{o:Obj}(e:X.base.get? b=some o):b∉X.fs:=λhb=>by
 have:=(ok.funs.mem hb).1
 rw[e]at this;cases this
theorem Inv.bs(I:Inv X pins σ H s):∀b o,X.base.get? b=some o->s.heap.get? b=some o/\H b=none:=λb o e =>
 ⟨I.base.keep b o (I.ok.bs b o e).1 (I.ok.bs b o e).2 (I.ok.nofr e) (I.ok.noex b o e),I.base.free b o (I.ok.bs b o e).1 (I.ok.bs b o e).2 (I.ok.noex b o e)⟩
theorem Inv.bk(I:Inv X pins σ H s):∀b o,X.base.get? b=some o->s.heap.get? b=some o:=λb o e=>(I.bs b o e).1
theorem Inv.mod(I:Inv X pins σ H s):Mod X.K X.mg X.base:=I.ok.mod
theorem Inv.kIn(I:Inv X pins σ H s):X.K.In s.heap:=I.ok.mod.kin.keeps I.bk
theorem Inv.lt(I:Inv X pins σ H s):X.env.locals<s.heap.objs.size:=let⟨_,hn,_⟩:=I.loc;hn.lt
theorem Inv.sz(I:Inv X pins σ H s):X.s₀.heap.objs.size<=s.heap.objs.size:=Io I.ok.above (Wt I.lt)
theorem Inv.nofs(I:Inv X pins σ H s){a:Addr}(h:s.heap.objs.size<=a):a∉X.fs:=λhb=>by
 obtain⟨_,o,ho,_⟩:=I.ok.funs.mem hb
 exact absurd (A0 (Al ho) (Io I.sz h)) (O8 _)
theorem Inv.cne(I:Inv X pins σ H s):∀x c,X.env.cells.lookup x=some c->c≠X.env.locals:=λx c e z=>by
 obtain⟨v,o,ho,hd⟩:=I.cell x c e
 obtain⟨m,⟨o',es,ep,ho',hd',_⟩,_⟩:=I.loc
 rw[z,ho']at ho;cases ho;rw[hd']at hd;cases hd
theorem Inv.funs(I:Inv X pins σ H s):s.heap.FunFrames X.base X.outer:=by
 have all:∀(l:List Env),(∀b∈frs l,b∈X.fs)->X.s₀.heap.FunFrames X.base l->s.heap.FunFrames X.base l:=by
  intro l
  induction l with
  |nil=>intro _ _;trivial
  |cons env r ih =>
   intro hs hl
   obtain⟨hk,⟨L,o,hf,hn,ho,hd⟩,hr⟩:=hl
   have hL:L∈X.fs:=hs L (by unfold frs;rw[List.filterMap_cons,hf];exact Oa)
   obtain⟨sl,e⟩:=I.base.slot L o ho (I.ok.frf L hL) hL λz=>I.ok.exfs L z hL
   exact⟨hk,⟨L,_,hf,hn,e,hd⟩,ih (λb hb=>hs b (by unfold frs;rw[List.filterMap_cons,hf];exact Im _ hb)) hr⟩
 exact all X.outer (λ_ hb=>hb) I.ok.funs
theorem Inv.stack(I:Inv X pins σ H s):s.heap.FunFrames X.base X.stack:=by
 rcases I.ok.stk with e|⟨e,hf⟩
 ·rw[e];exact I.funs
 ·rw[e]
  obtain⟨m,hn,_⟩:=I.loc
  refine .cons (by rw[I.ok.kind];decide) hf hn ?_ I.funs
  exact Heap.get?_none_of_le (Io I.ok.bsz I.ok.above)
theorem Inv.stkSub(I:Inv X pins σ H s):∀b∈frs X.stack,b∈X.env.locals::X.fs:=λb hb=>by
 rcases I.ok.stk with e|⟨e,hf⟩
 ·rw[e]at hb;exact Im _ hb
 ·rw[e]at hb
  unfold frs at hb
  rw[List.filterMap_cons,hf]at hb
  exact hb
theorem Inv.stkFree(I:Inv X pins σ H s):∀b∈frs X.stack,H b=none:=λb hb=>by
 rcases Ar.mp (I.stkSub b hb)with e|hb
 ·rw[e];exact I.free
 ·obtain⟨_,o,ho,_⟩:=I.ok.funs.mem hb
  exact I.base.free b o ho (I.ok.frf b hb) λz=>I.ok.exfs b z hb
theorem Inv.step{g':Array GenState}{t':Nat}{d':Drawn}{ch:List Addr}(I:Inv X pins σ H s)
  (hch:∀b∈ch,(b∈X.ex\/X.s₀.heap.objs.size<=b)/\b≠X.env.locals/\(∀x c,X.env.cells.lookup x=some c->c≠b)/\∀p∈X.pn++pins,p.1≠b)
  (keep:∀b o,b≠X.env.locals->b∉X.fs->b∉ch->s.heap.get? b=some o->H b=none->h'.get? b=some o)
  (slot:∀b o,b≠X.env.locals->b∈X.fs->b∉ch->s.heap.get? b=some o->H b=none->∃sl,h'.get? b=some {o with slots:=sl}) (free:∀b o,b∉ch->s.heap.get? b=some o->H b=none->H' b=none)
  (there:∀b o,b∉ch->s.heap.get? b=some o->∃o',h'.get? b=some o')
  (tups:∀b xs,H b=some (.tup xs)->H' b=some (.tup xs)) (frzs:∀b o u,H b=some (.frz o u)->H' b=some (.frz o u)) (tbls:∀b ps,H b=some (.tbl ps)->∃more,H' b=some (.tbl (ps++more)))
  (ns:∀m,s.heap.Ns X.env.locals m->h'.Ns X.env.locals m) (hok:HOk X.prog X.w H' h') (hg:AllBare g') :
  Inv X pins σ H' {s with heap:=h',gens:=g',drawn:=d',toks:=t'}:=by
 have neL:∀b o,X.s₀.heap.get? b=some o->b≠X.env.locals:=λb o e=>Ao (A0 (Al e) I.ok.above)
 have neC:∀b o,X.s₀.heap.get? b=some o->b∉X.ex->b∉ch:=λb o e hx hb=>by
  rcases(hch b hb).1 with z|z
  ·exact hx z
  ·exact absurd (A0 (Al e) z) (O8 _)
 have cellK:∀x c,X.env.cells.lookup x=some c->∀v,s.heap.IsCell c v->h'.IsCell c v:=λx c e v ⟨o,ho,hd⟩=>by
  have nch:c∉ch:=λz=>(hch c z).2.2.1 x c e rfl
  by_cases hc:c∈X.fs
  ·obtain⟨sl,q⟩:=slot c o (I.cne x c e) hc nch ho (I.freeC x c e)
   exact⟨_,q,hd⟩
  ·exact⟨o,keep c o (I.cne x c e) hc nch ho (I.freeC x c e),hd⟩
 refine⟨I.ok,I.os,hg,⟨λb o e n hb hx=>?_,λb o e n hb hx=>?_,λb o e n hx=>?_,λb o e hx=>?_,λb xs e=>tups b xs (I.base.tups b xs e),λb o xs e=>frzs b o xs (I.base.frzs b o xs e),λb ps e=>?_⟩,?_,λx c e=>?_,?_,λx c e=>?_,λp hp=>?_,hok,I.len⟩
 ·exact keep b o (neL b o e) hb (neC b o e hx) (I.base.keep b o e n hb hx) (I.base.free b o e n hx)
 ·obtain⟨sl,e1⟩:=I.base.slot b o e n hb hx
  obtain⟨sl',e2⟩:=slot b _ (neL b o e) hb (neC b o e hx) e1 (I.base.free b o e n hx)
  exact⟨sl',e2⟩
 ·obtain⟨o',e1⟩:=I.base.there b o e hx
  exact free b o' (neC b o e hx) e1 (I.base.free b o e n hx)
 ·obtain⟨o',e1⟩:=I.base.there b o e hx
  exact there b o' (neC b o e hx) e1
 ·obtain⟨m1,e1⟩:=I.base.tbls b ps e
  obtain⟨m2,e2⟩:=tbls b _ e1
  exact⟨m1++m2,by rw[e2,Array.append_assoc]⟩
 ·obtain⟨m,hn,hl⟩:=I.loc
  refine⟨m,ns m hn,λi x v e1 e2 e3=>?_⟩
  obtain⟨u,r,l⟩:=hl i x v e1 e2 e3
  refine⟨u,r,?_⟩
  rcases l with l|⟨k,c,e,z⟩
  ·exact .inl l
  ·exact .inr ⟨k,c,e,cellK x c e _ z⟩
 ·obtain⟨v,z⟩:=I.cell x c e
  exact⟨v,cellK x c e v z⟩
 ·obtain⟨m,⟨o,_,_,ho,_⟩,_⟩:=I.loc
  exact free _ o (λz=>(hch _ z).2.1 rfl) ho I.free
 ·obtain⟨v,o,ho,hd⟩:=I.cell x c e
  exact free c o (λz=>(hch c z).2.2.1 x c e rfl) ho (I.freeC x c e)
 ·obtain⟨e,n,ne,nf,d⟩:=I.pin p hp
  have nch:p.1∉ch:=λz=>(hch p.1 z).2.2.2 p hp rfl
  exact⟨keep p.1 p.2 ne nf nch e n,free p.1 p.2 nch e n,ne,nf,d⟩
theorem Inv.un{t':Nat}(I:Inv X pins σ H s)(u:Un X.fs [] H H' s.heap h')(hok:HOk X.prog X.w H' h'):Inv X pins σ H' {s with heap:=h',toks:=t'}:=by
 obtain⟨m,⟨o,es,ep,ho,r⟩,_⟩:=id I.loc
 obtain⟨sl,hL⟩:=u.any ho I.free (by simp)
 exact I.step (g':=s.gens) (d':=s.drawn) (ch:=[]) (λ_ z=>nomatch z) (λb o _ hb _ e n=>u.keep b o e n hb (by simp)) (λb o _ hb _ e n=>u.slot b o e n hb (by simp)) (λb o _ e n=>u.free b o e n (by simp)) (λb o _ e=>u.there b o e (by simp)) u.tups u.frzs u.tbls (λm' hm=>by
  obtain⟨o',es',ep',ho',r'⟩:=hm
  rw[ho]at ho';cases ho'
  exact⟨_,es',ep',hL,r'⟩) hok I.bare
theorem Inv.call{g':Array GenState}{t':Nat}{d':Drawn}{ch:List Addr}(I:Inv X pins σ H s)(u:Un (frs X.stack) ch H H' s.heap h')(hok:HOk X.prog X.w H' h')(hg:AllBare g')
  (hch:∀b∈ch,(b∈X.ex\/X.s₀.heap.objs.size<=b)/\b≠X.env.locals/\(∀x c,X.env.cells.lookup x=some c->c≠b)/\∀p∈X.pn++pins,p.1≠b) :
  Inv X pins σ H' {s with heap:=h',gens:=g',drawn:=d',toks:=t'}:=by
 obtain⟨m,⟨o,es,ep,ho,r⟩,_⟩:=id I.loc
 obtain⟨sl,hL⟩:=u.any ho I.free λz=>(hch _ z).2.1 rfl
 exact I.step (ch:=ch) hch (λb o hL hb hc e n=>u.keep b o e n (λz=>(Ar.mp (I.stkSub b z)).elim hL hb) hc) (λb o _ _ hc e n=>u.any e n hc) (λb o hc e n=>u.free b o e n hc) (λb o hc e=>u.there b o e hc) u.tups u.frzs u.tbls (λm' hm=>by
  obtain⟨o',es',ep',ho',r'⟩:=hm
  rw[ho]at ho';cases ho'
  exact⟨_,es',ep',hL,r'⟩) hok hg
theorem Inv.turned{t':Nat}{it:Addr}(I:Inv X pins σ H s)(k:∀b o,b≠it->s.heap.get? b=some o->h'.get? b=some o)(hn:H it=none)(hL:it≠X.env.locals)
  (h1:it∈X.ex\/X.s₀.heap.objs.size<=it) (h2:∀x c,X.env.cells.lookup x=some c->c≠it) (h3:∀p∈X.pn++pins,p.1≠it):Inv X pins σ H {s with heap:=h',toks:=t'}:=by
 have nit:∀b u,H b=some u->b≠it:=λb u e z=>by rw[z,hn]at e;cases e
 refine I.step (g':=s.gens) (d':=s.drawn) (ch:=[it]) (λb hb=>?_) (λb o _ _ hc e _=>k b o (λz=>hc (by simp[z])) e) (λb o _ _ hc e _=>⟨o.slots,k b o (λz=>hc (by simp[z])) e⟩) (λ_ _ _ _ n=>n)
  (λb o hc e=>⟨o,k b o (λz=>hc (by simp[z])) e⟩) (λ_ _ e=>e) (λ_ _ _ e=>e) (λb ps e=>⟨#[],by rw[e];simp⟩) (λm hm=>?_) (λb u e=>?_) I.bare
 ·have e:b=it:=by simpa using hb
  subst e
  exact⟨h1,hL,h2,h3⟩
 ·obtain⟨o,es,ep,ho,r⟩:=hm
  exact⟨o,es,ep,k _ o (Up hL) ho,r⟩
 ·refine(I.hok b u e).stay (λc v hc q=>k c v ?_ q) (λ_ q=>q) λ_ _ q=>q
  rcases hc with z|z
  ·rw[z];exact nit b u e
  ·exact nit c _ z
theorem Inv.tok(I:Inv X pins σ H s)(t:Nat):Inv X pins σ H {s with toks:=t}:=I.un (h':=s.heap) (t':=t) Un.refl I.hok
theorem Inv.kept{t':Nat}(I:Inv X pins σ H s)(k:∀b u,s.heap.get? b=some u->h'.get? b=some u):Inv X pins σ H {s with heap:=h',toks:=t'}:=I.un (Un.kept k) (I.hok.kept k)
theorem Inv.laid{a:Addr}{o:HO}{t':Nat}(I:Inv X pins σ H s)(k:∀b u,s.heap.get? b=some u->h'.get? b=some u)(hp:s.heap.objs.size<=a)(new:ObjOk X.prog X.w (upd H a o) h' a o) :
  Inv X pins σ (upd H a o) {s with heap:=h',toks:=t'}:=I.un (Un.laid k hp (I.hok.fresh hp)) (I.hok.laid k hp new)
theorem Inv.write{x e:Addr}{o:HO}{t':Nat}(I:Inv X pins σ H s)(mu:Mut (H x))(he:e=x\/H e=some (.own x))(k:∀b u,b≠e->s.heap.get? b=some u->h'.get? b=some u)(heo:∃u,h'.get? e=some u)
  (new:ObjOk X.prog X.w (upd H x o) h' x o):Inv X pins σ (upd H x o) {s with heap:=h',toks:=t'}:=I.un (Un.write mu he k heo) (I.hok.write mu he k heo new)
theorem Inv.pins_of{pins':List (Addr×Obj)}(I:Inv X pins σ H s)(h:∀p∈pins',s.heap.get? p.1=some p.2/\H p.1=none/\p.1≠X.env.locals/\p.1∉X.fs/\∀v,p.2.data≠.cell v):Inv X pins' σ H s :=
 ⟨I.ok,I.os,I.bare,I.base,I.loc,I.cell,I.free,I.freeC,λp hp=>(Is.mp hp).elim (λz=>I.pin p (Uc _ z)) (h p),I.hok,I.len⟩
theorem jis{N:List Str}(hN:N.Nodup){i j:Nat}{x:Str}(a:N[i]?=some x)(b:N[j]?=some x):i=j:=by
 obtain⟨h1,e1⟩:=Ag.mp a
 obtain⟨h2,e2⟩:=Ag.mp b
 exact(List.getElem_inj hN).mp (e1.trans e2.symm)
theorem jdw{M:Model}{A:Around}{E:Value->Shared->Prop}{i:Nat}{x:Str}{v:V}{u:Value}{Q:Unit->Shared->Prop}(I:Inv X pins σ H s)(hN:X.N.Nodup)(hi:X.N[i]?=some x)(hx:Loc X.env.scope x)(r:RelV v u)
  (h:∀s',Inv X pins (σ.set i (some v)) H s'->(∃a,Heap.SameBut a s.heap s'.heap/\(a=X.env.locals\/X.env.cells.lookup x=some a))->Q () s') (hf:X.fn x=true\/X.env.scope.names.lookup x=some .local:=by first|exact .inl rfl|exact .inr rfl|assumption):wpAny M A (storeName X.env x u) Q E s:=by
 obtain⟨m,hn,hl⟩:=id I.loc
 have hcls:(X.env.scope.kind == .class || (X.env.scope.kind == .module && X.env.locals != X.env.globals))=false:=by rw[I.ok.kind];rfl
 have hiσ:i<σ.length:=by rw[I.len];exact(Ag.mp hi).1
 have cne:=I.cne
 have tracked:∀{a:Addr}{h':Heap},(∃o,s.heap.get? a=some o/\H a=none)->Heap.SameBut a s.heap h'->HOk X.prog X.w H h':=fun{a h'} ha hs b ob e=>by
  obtain⟨_,_,hfree⟩:=ha
  refine(I.hok b ob e).stay (λc w' hc q=>(hs.2 c ?_).trans q) (λ_ q=>q) λ_ _ q=>q
  rintro rfl
  rcases hc with rfl|hc
  ·rw[hfree]at e;cases e
  ·rw[hfree]at hc;cases hc
 rcases hx with hk|hk
 ·refine wpAny_storeName_local hk hn (λh' hn' hs=>?_) hcls
  obtain⟨oL,_,_,hoL,_⟩:=id hn
  refine h _ ⟨I.ok,I.os,I.bare,⟨λb o e n hb hx=>?_,λb o e n hb hx=>?_,I.base.free,λb o e hx=>?_,I.base.tups,I.base.frzs,I.base.tbls⟩,⟨_,hn',λj y v' e1 e2 e3=>?_⟩,λy c e=>?_,I.free,I.freeC,λp hp=>?_,tracked ⟨oL,hoL,I.free⟩ hs,by simpa using I.len⟩ ⟨_,hs,.inl rfl⟩
  ·exact(hs.2 b (Ao (A0 (Al e) I.ok.above))).trans (I.base.keep b o e n hb hx)
  ·obtain⟨sl,e1⟩:=I.base.slot b o e n hb hx
   exact⟨sl,(hs.2 b (Ao (A0 (Al e) I.ok.above))).trans e1⟩
  ·obtain⟨o',e1⟩:=I.base.there b o e hx
   exact⟨o',(hs.2 b (Ao (A0 (Al e) I.ok.above))).trans e1⟩
  ·by_cases hj:j=i
   ·subst hj
    rw[hi]at e1;cases e1
    rw[List.getElem?_set_self hiσ]at e2
    cases e2
    exact⟨u,r,.inl ⟨hk,by simp⟩⟩
   ·rw[List.getElem?_set_ne (Up hj)]at e2
    obtain⟨u',r',q⟩:=hl j y v' e1 e2 e3
    refine⟨u',r',?_⟩
    rcases q with⟨k,e⟩|⟨k,c,e,z⟩
    ·refine .inl ⟨k,?_⟩
     have:y≠x:=λe=>hj (jis hN e1 (e▸hi))
     simp[this,e]
    ·exact .inr ⟨k,c,e,z.sameBut hs (cne y c e)⟩
  ·obtain⟨w',z⟩:=I.cell y c e
   exact⟨w',z.sameBut hs (cne y c e)⟩
  ·obtain⟨e,n,ne,nf,d⟩:=I.pin p hp
   exact⟨(hs.2 p.1 ne).trans e,n,ne,nf,d⟩
 ·have hfn:X.fn x=true:=by
   rcases hf with z|z
   ·exact z
   ·rw[z]at hk;cases hk
  obtain⟨c,hc⟩:=I.ok.has x (.inl hk)
  obtain⟨w',z⟩:=I.cell x c hc
  refine wpAny_storeName_cell I.ok.kind hk hc z (λh' hc' hs=>?_)
  obtain⟨oc,hoc,hocd⟩:=id z
  refine h {s with heap:=h'} ⟨I.ok,I.os,I.bare,⟨λb o e n hb hx=>?_,λb o e n hb hx=>?_,I.base.free,λb o e hx=>?_,I.base.tups,I.base.frzs,I.base.tbls⟩,⟨m,hn.sameBut hs (Up (cne x c hc)),λj y v' e1 e2 e3=>?_⟩,λy c' e=>?_,I.free,I.freeC,λp hp=>?_,tracked ⟨oc,hoc,I.freeC x c hc⟩ hs,by simpa using I.len⟩ ⟨c,hs,.inr hc⟩
  ·exact(hs.2 b (Ao (A0 (Al e) (I.ok.cab x c hfn hc)))).trans (I.base.keep b o e n hb hx)
  ·obtain⟨sl,e1⟩:=I.base.slot b o e n hb hx
   exact⟨sl,(hs.2 b (Ao (A0 (Al e) (I.ok.cab x c hfn hc)))).trans e1⟩
  ·obtain⟨o',e1⟩:=I.base.there b o e hx
   exact⟨o',(hs.2 b (Ao (A0 (Al e) (I.ok.cab x c hfn hc)))).trans e1⟩
  ·by_cases hj:j=i
   ·subst hj
    rw[hi]at e1;cases e1
    rw[List.getElem?_set_self hiσ]at e2
    cases e2
    exact⟨u,r,.inr ⟨.inl hk,c,hc,hc'⟩⟩
   ·rw[List.getElem?_set_ne (Up hj)]at e2
    obtain⟨u',r',q⟩:=hl j y v' e1 e2 e3
    refine⟨u',r',?_⟩
    rcases q with q|⟨k,c',e,z'⟩
    ·exact .inl q
    ·refine .inr ⟨k,c',e,z'.sameBut hs ?_⟩
     rintro rfl
     exact hj (jis hN e1 (I.ok.inj _ _ _ e hc▸hi))
  ·by_cases hcc:c'=c
   ·subst hcc;exact⟨_,hc'⟩
   ·obtain⟨w2,z2⟩:=I.cell y c' e
    exact⟨w2,z2.sameBut hs hcc⟩
  ·obtain⟨e,n,ne,nf,d⟩:=I.pin p hp
   refine⟨(hs.2 p.1 ?_).trans e,n,ne,nf,d⟩
   intro q
   rw[q,hoc]at e
   have q':oc=p.2:=Av e
   exact d w' (by rw[<-q'];exact hocd)
theorem jji{M:Model}{A:Around}{E:Value->Shared->Prop}{i:Nat}{x:Str}{v:V}{u:Value}{Q:Unit->Shared->Prop}(I:Inv X pins σ H s)(hN:X.N.Nodup)(hi:X.N[i]?=some x)(hx:Loc X.env.scope x)(r:RelV v u)
  (h:∀s',Inv X pins (σ.set i (some v)) H s'->Q () s') (hf:X.fn x=true\/X.env.scope.names.lookup x=some .local:=by first|exact .inl rfl|exact .inr rfl|assumption):wpAny M A (storeName X.env x u) Q E s :=
 jdw I hN hi hx r (λs' I' _=>h s' I') hf
theorem Inv.call'{s':Shared}{ch:List Addr}(I:Inv X pins σ H s)(ho:s'.os=s.os)(u:Un (frs X.stack) ch H H' s.heap s'.heap)(hok:HOk X.prog X.w H' s'.heap)(hg:AllBare s'.gens)
  (hch:∀b∈ch,(b∈X.ex\/X.s₀.heap.objs.size<=b)/\b≠X.env.locals/\(∀x c,X.env.cells.lookup x=some c->c≠b)/\∀p∈X.pn++pins,p.1≠b):Inv X pins σ H' s':=by
 obtain⟨h',g',d',t',o'⟩:=s'
 have e:o'=s.os:=ho
 subst e
 exact I.call (g':=g') (t':=t') (d':=d') u hok hg hch
end
abbrev XK:=Value->Option Addr->Hp->Prop
abbrev St:=List (Option V)
abbrev VK:=V->Hp->Prop
abbrev TE:=St->Hp->VK->Prop
abbrev TT:=St->Hp->(Bool->Hp->Prop)->Prop
abbrev TA:=St->Hp->(List V->Hp->Prop)->Prop
structure Ends where
 nx:St->Hp->Prop
 rt:VK
 bk:St->Hp->Prop:=λ_ _=>False
 ct:St->Hp->Prop:=λ_ _=>False
abbrev TS:=Ends->St->Hp->Prop
def EP(X:Cx)(pins:List (Addr×Obj))(σ:St)(Q:VK)(u:Value)(s':Shared):Prop:=∃v H',Inv X pins σ H' s'/\RelV v u/\Q v H'
def TP(X:Cx)(pins:List (Addr×Obj))(σ:St)(Q:Bool->Hp->Prop)(b:Bool)(s':Shared):Prop:=∃H',Inv X pins σ H' s'/\Q b H'
def AP(X:Cx)(pins:List (Addr×Obj))(σ:St)(Q:List V->Hp->Prop)(us:List Value)(s':Shared):Prop:=∃vs H',Inv X pins σ H' s'/\Vals vs us/\Q vs H'
def SP(X:Cx)(pins:List (Addr×Obj))(D:Ends)(f:Flow)(s':Shared):Prop :=
 match f with
 |.next=>∃σ' H',Inv X pins σ' H' s'/\D.nx σ' H'
 |.brk=>∃σ' H',Inv X pins σ' H' s'/\D.bk σ' H'
 |.cont=>∃σ' H',Inv X pins σ' H' s'/\D.ct σ' H'
 |.ret u=>∃v σ' H',Inv X pins σ' H' s'/\RelV v u/\D.rt v H'
def PE(X:Cx)(e:Expr)(t:TE):Prop :=
 ∀(pins:List (Addr×Obj))(s:Shared)(σ:St)(H:Hp)(Q:VK),Inv X pins σ H s->t σ H Q->wpAny (model X.prog X.w) X.A (eval e X.env) (EP X pins σ Q) X.xe s
def PT(X:Cx)(e:Expr)(t:TT):Prop :=
 ∀(pins:List (Addr×Obj))(s:Shared)(σ:St)(H:Hp)(Q:Bool->Hp->Prop),Inv X pins σ H s->t σ H Q->wpAny (model X.prog X.w) X.A (isTrue e X.env (eval e X.env)) (TP X pins σ Q) X.xe s
def PW(X:Cx)(e:Expr)(t:TT):Prop :=
 ∀(whole:Sem Value)(pins:List (Addr×Obj))(s:Shared)(σ:St)(H:Hp)(Q:Bool->Hp->Prop),Inv X pins σ H s->t σ H Q->wpAny (model X.prog X.w) X.A (isTrue e X.env whole) (TP X pins σ Q) X.xe s
theorem PW.pt{X:Cx}{e:Expr}{t:TT}(h:PW X e t):PT X e t:=h _
def PA(X:Cx)(es:List Expr)(t:TA):Prop :=
 ∀(pos:Pos)(pins:List (Addr×Obj))(s:Shared)(σ:St)(H:Hp)(Q:List V->Hp->Prop),Inv X pins σ H s->t σ H Q->wpAny (model X.prog X.w) X.A (spliced (backTo pos (starEach es X.env))) (AP X pins σ Q) X.xe s
def PS(X:Cx)(st:Stmt)(t:TS):Prop :=
 ∀(pins:List (Addr×Obj))(s:Shared)(σ:St)(H:Hp)(D:Ends),Inv X pins σ H s->t D σ H->wpAny (model X.prog X.w) X.A (exec st X.env) (SP X pins D) X.xe s
def PSs(X:Cx)(st:List Stmt)(t:TS):Prop :=
 ∀(pins:List (Addr×Obj))(s:Shared)(σ:St)(H:Hp)(D:Ends),Inv X pins σ H s->t D σ H->wpAny (model X.prog X.w) X.A (execs st X.env) (SP X pins D) X.xe s
theorem thn{α:Type}{t:Sem α}{Q Q':α->Shared->Prop}{M:Model}{A:Around}{E:Value->Shared->Prop}{s:Shared}(h:wpAny M A t Q E s)(hQ:∀a s,Q a s->Q' a s):wpAny M A t Q' E s:=Ox h hQ λ_ _ x=>x
section
variable{X:Cx}
def tVar(i:Nat):TE:=λσ H Q=>∃v,σ[i]?=some (some v)/\Q v H
def tC(v:V):TE:=λ_ H Q=>Q v H
theorem pe_var{i:Nat}{x:Str}{pos:Pos}(hN:X.N[i]?=some x)(hv:Vis X.env.scope x)(hd:(x == ("__debug__":Str))=false:=by decide)(hcd:(x == ("__classdict__":Str))=false:=by decide):PE X (.Name x pos) (tVar i):=by
 intro pins s σ H Q I h
 obtain⟨v,e,h⟩:=h
 obtain⟨m,hn,hl⟩:=I.loc
 obtain⟨u,r,l⟩:=hl i x v hN e hv
 have fin:EP X pins σ Q u s:=⟨v,H,I,r,h⟩
 rcases l with⟨hk,hm⟩|⟨hk,c,hc,hcell⟩
 ·exact wpAny_Name (wpAny_loadName_local I.ok.kind hk hn hm fin) hd
 ·rcases hk with hk|hk
  ·exact wpAny_Name (wpAny_loadName_cell I.ok.kind hk hc hcell fin) hd
  ·exact wpAny_Name (wpAny_loadName_free I.ok.kind hk hc hcell fin hcd) hd
theorem pe_int{i j pos}:PE X (.Constant (.int i) j pos) (tC (.int i)):=λ_ _ _ H _ I h=>wpAny_Constant_int ⟨.int i,H,I.tok _,⟨_,rfl⟩,h⟩
theorem pe_bl{b j pos}:PE X (.Constant (.bool b) j pos) (tC (.bl b)):=λ_ _ _ H _ I h=>Constant_bool ⟨.bl b,H,I,rfl,h⟩
theorem pe_str{x j pos}:PE X (.Constant (.str x) j pos) (tC (.str x)):=λ_ _ _ H _ I h=>Calls.Constant_str ⟨.str x,H,I.tok _,⟨_,rfl⟩,h⟩
def Gl(X:Cx)(x:Str):Prop:=X.env.kindOf x=some .globalImplicit
theorem jgf{E:Value->Shared->Prop}{pins:List (Addr×Obj)}{s:Shared}{σ:St}{H:Hp}{x:Str}{u:Value}{pos:Pos}{Q:Value->Shared->Prop}(I:Inv X pins σ H s)(hg:Gl X x)(hm:X.mg x=some u)(h:Q u s)
  (hd:(x == ("__debug__":Str))=false:=by decide):wpAny (model X.prog X.w) X.A (eval (.Name x pos) X.env) Q E s :=
 Calls.Name_function_global I.ok.kind hg (Calls.loadGlobal_global (by rw[I.ok.glob];exact I.mod.glob.keeps I.bk) hm h) hd
theorem jdj{E:Value->Shared->Prop}{pins:List (Addr×Obj)}{s:Shared}{σ:St}{H:Hp}{x:Str}{u:Value}{pos:Pos}{Q:Value->Shared->Prop}(I:Inv X pins σ H s)(hg:Gl X x)(hm:X.mg x=none)(hv:bootBuiltins x=some u)(h:Q u s)
  (hn:x≠"__name__":=by decide) (hd:(x == ("__debug__":Str))=false:=by decide):wpAny (model X.prog X.w) X.A (eval (.Name x pos) X.env) Q E s:=by
 obtain⟨mb,h1,h2⟩:=I.mod.blt
 exact Calls.Name_function_global I.ok.kind hg (Calls.loadGlobal_builtin (by rw[I.ok.glob];exact I.mod.glob.keeps I.bk) hm (by rw[I.ok.blt];exact h1.keeps I.bk) ((h2 x hn).trans hv) h) hd
theorem pe_glob{x:Str}{v:V}{u:Value}{pos:Pos}(hg:Gl X x)(hm:X.mg x=some u)(r:RelV v u)(hd:(x == ("__debug__":Str))=false:=by decide):PE X (.Name x pos) (tC v) :=
 λ_ _ _ H _ I h=>jgf I hg hm ⟨v,H,I,r,h⟩ hd
theorem pe_bltn{x:Str}{v:V}{u:Value}{pos:Pos}(hg:Gl X x)(hm:X.mg x=none)(hv:bootBuiltins x=some u)(r:RelV v u)(hn:x≠"__name__":=by decide)(hd:(x == ("__debug__":Str))=false:=by decide):PE X (.Name x pos) (tC v) :=
 λ_ _ _ H _ I h=>jdj I hg hm hv ⟨v,H,I,r,h⟩ hn hd
variable{a b:Expr}{ta tb:TE}{pos:Pos}
def PC(X:Cx)(op:CmpOp)(a b:Expr)(t:TE):Prop :=
 ∀(pins:List (Addr×Obj))(s:Shared)(σ:St)(H:Hp)(Q:VK),Inv X pins σ H s->t σ H Q ->
  wpAny (model X.prog X.w) X.A (eval a X.env) (λv s₁=>wpAny (model X.prog X.w) X.A (eval b X.env) (λu s₂=>wpAny (model X.prog X.w) X.A (compareOp op v u) (EP X pins σ Q) X.xe s₂) X.xe s₁) X.xe s
def tB(t:TE):TT:=λσ H Q=>t σ H λx H1=>∃c,x=.bl c/\Q c H1
theorem pt_cmp{op:CmpOp}{t:TE}(h:PC X op a b t)(h1:behindInMarks op b=false:=by first|exact nobehind _ (by decide) (by decide)|rfl):PT X (.Compare a [op] [b] pos) (tB t):=by
 intro pins s σ H Q I hw
 refine wpAny_isTrue_Compare1 (thn (h pins s σ H _ I hw) λv s1 h1=>thn h1 λu s2 h2=>thn h2 λc s3 ⟨x,H1,I1,r1,q1⟩=>?_) h1
 obtain⟨d,rfl,q⟩:=q1
 cases r1
 exact Oi ⟨H1,I1,q⟩
theorem pt_val{e:Expr}{t:TE}(h:PE X e t)(he:∀whole,isTrue e X.env whole=(do let v <-whole;standAt e.pos;holding [v] (truthy v)):=by intro _;rfl):PT X e (tB t):=by
 intro pins s σ H Q I hw
 refine isTrue_plain (thn (h pins s σ H _ I hw) λv s1 ⟨x,H1,I1,r1,q1⟩=>?_) (he _)
 obtain⟨d,rfl,q⟩:=q1
 cases r1
 exact Oi ⟨H1,I1,q⟩
variable{tA tB':TT}{rest:List Expr}
def tAnd(t u:TT):TT:=λσ H Q=>t σ H λc H1=>if c=true then u σ H1 Q else Q false H1
def tOr(t u:TT):TT:=λσ H Q=>t σ H λc H1=>if c=true then Q true H1 else u σ H1 Q
def tNot(t:TT):TT:=λσ H Q=>t σ H λc H1=>Q (!c) H1
theorem pw_and1(ha:PT X a tA):PW X (.BoolOp .And [a] pos) tA:=by
 intro wh pins s σ H Q I h
 refine isTrue_and (thn (ha pins s σ H Q I h) λc s1 e=>?_)
 cases c with
 |true=>exact isTrue_and_nil e
 |false=>exact e
theorem pw_or1(ha:PT X a tA):PW X (.BoolOp .Or [a] pos) tA:=by
 intro wh pins s σ H Q I h
 refine isTrue_or (thn (ha pins s σ H Q I h) λc s1 e=>?_)
 cases c with
 |false=>exact isTrue_or_nil e
 |true=>exact e
theorem pw_and(ha:PT X a tA)(hb:PW X (.BoolOp .And (b::rest) pos) tB'):PW X (.BoolOp .And (a::b::rest) pos) (tAnd tA tB'):=by
 intro wh pins s σ H Q I h
 refine isTrue_and (thn (ha pins s σ H _ I h) λc s1 ⟨H1,I1,q1⟩=>?_)
 cases c with
 |true=>exact hb wh pins s1 σ H1 Q I1 q1
 |false=>exact⟨H1,I1,q1⟩
theorem pw_or(ha:PT X a tA)(hb:PW X (.BoolOp .Or (b::rest) pos) tB'):PW X (.BoolOp .Or (a::b::rest) pos) (tOr tA tB'):=by
 intro wh pins s σ H Q I h
 refine isTrue_or (thn (ha pins s σ H _ I h) λc s1 ⟨H1,I1,q1⟩=>?_)
 cases c with
 |true=>exact⟨H1,I1,q1⟩
 |false=>exact hb wh pins s1 σ H1 Q I1 q1
theorem pt_not(ha:PT X a tA):PT X (.UnaryOp .Not a pos) (tNot tA):=by
 intro pins s σ H Q I h
 exact isTrue_not (ha pins s σ H (λc H1=>Q (!c) H1) I h)
def jeu(ta tb:TE):TE:=λσ H Q=>ta σ H λx H1=>∃c,x=.bl c/\if c=true then tb σ H1 Q else Q (.bl false) H1
def tOrV(ta tb:TE):TE:=λσ H Q=>ta σ H λx H1=>∃c,x=.bl c/\if c=true then Q (.bl true) H1 else tb σ H1 Q
def jh7(ta:TE):TE:=λσ H Q=>ta σ H λx H1=>∃c,x=.bl c/\Q (.bl (!c)) H1
theorem pe_one{op}{t:TE}(h:PE X a t):PE X (.BoolOp op [a] pos) t:=λpins s σ H Q I hw=>BoolOp_one (h pins s σ H Q I hw)
theorem pe_and(ha:PE X a ta)(hb:PE X (.BoolOp .And (b::rest) pos) tb):PE X (.BoolOp .And (a::b::rest) pos) (jeu ta tb):=by
 intro pins s σ H Q I h
 refine BoolOp_and (thn (ha pins s σ H _ I h) λv s1 ⟨x,H1,I1,r1,q1⟩=>?_)
 obtain⟨c,rfl,q1⟩:=q1
 cases r1
 refine Oi ?_
 cases c with
 |true=>exact hb pins s1 σ H1 Q I1 q1
 |false=>exact⟨.bl false,H1,I1,rfl,q1⟩
theorem pe_or(ha:PE X a ta)(hb:PE X (.BoolOp .Or (b::rest) pos) tb):PE X (.BoolOp .Or (a::b::rest) pos) (tOrV ta tb):=by
 intro pins s σ H Q I h
 refine BoolOp_or (thn (ha pins s σ H _ I h) λv s1 ⟨x,H1,I1,r1,q1⟩=>?_)
 obtain⟨c,rfl,q1⟩:=q1
 cases r1
 refine Oi ?_
 cases c with
 |false=>exact hb pins s1 σ H1 Q I1 q1
 |true=>exact⟨.bl true,H1,I1,rfl,q1⟩
theorem pe_not(ha:PE X a ta):PE X (.UnaryOp .Not a pos) (jh7 ta):=by
 intro pins s σ H Q I h
 refine UnaryOp_ (thn (ha pins s σ H _ I h) λv s1 ⟨x,H1,I1,r1,q1⟩=>?_)
 obtain⟨c,rfl,q1⟩:=q1
 cases r1
 exact not_of (Oi ⟨.bl (!c),H1,I1,rfl,q1⟩)
end
def SqL(K:PySem.W.Frag)(H:Hp)(a:Addr)(xs:List V):Prop :=
 Rd H a (.lst xs) \/
  ∃(o:Obj)(its:Array Value)(n:Nat),K.lookup a=some o/\o.cls=.type "list"/\o.dict=none/\o.data=.seq its n/\its.size<=sizeLine/\Vals xs its.toList
def SqT(K:PySem.W.Frag)(H:Hp)(a:Addr)(xs:List V):Prop :=
 Rd H a (.tup xs) \/
  ∃(o:Obj)(its:Array Value)(n:Nat),K.lookup a=some o/\o.cls=.type "tuple"/\o.data=.seq its n/\its.size<=sizeLine/\Vals xs its.toList
def absV:Value->Option V
 |.none=>some .non
 |.bool b=>some (.bl b)
 |.int i _=>some (.int i)
 |.str x _=>some (.str x)
 |.bytes b _=>some (.byt b)
 |.float b _=>some (.flt b)
 |.ref a=>some (.ref a)
 |.type n=>some (.ty n)
 |_=>none
theorem RelV.abs{x:V}{u:Value}(r:RelV x u):absV u=some x:=by
 cases x with
 |non=>cases r;rfl
 |bl _=>cases r;rfl
 |int _=>obtain⟨t,rfl⟩:=r;rfl
 |str _=>obtain⟨t,rfl⟩:=r;rfl
 |byt _=>obtain⟨t,rfl⟩:=r;rfl
 |flt _=>obtain⟨t,rfl⟩:=r;rfl
 |ref _=>cases r;rfl
 |ty _=>cases r;rfl
theorem RelV.inj{x y:V}{u:Value}(r:RelV x u)(q:RelV y u):x=y:=Av (r.abs.symm.trans q.abs)
theorem Vals.inj:∀{xs ys:List V}{us:List Value},Vals xs us->Vals ys us->xs=ys
 |_,_,_,.nil,.nil=>rfl
 |_,_,_,.cons r t,.cons r' t'=>by rw[r.inj r',Vals.inj t t']
section
variable{X:Cx}{pins:List (Addr×Obj)}{σ:St}{H:Hp}{s:Shared}{a:Addr}{xs ys:List V}
theorem SqL.of{K:PySem.W.Frag}(h:H a=some (.lst xs)):SqL K H a xs:=.inl (.inl h)
theorem SqT.of{K:PySem.W.Frag}(h:H a=some (.tup xs)):SqT K H a xs:=.inl (.inl h)
theorem Inv.list(I:Inv X pins σ H s)(h:SqL X.K H a xs):∃its:List Value,Vals xs its/\PlainL s.heap a its.toArray/\xs.length<=sizeLine:=by
 rcases h with h|⟨o,its,n,hk,hc,hd,hs,hz,r⟩
 ·obtain⟨z,its,n,r,e⟩:=h.ok I.hok
  exact⟨its,r,⟨_,n,e,rfl,rfl,rfl⟩,z⟩
 ·refine⟨its.toList,r,⟨o,n,I.kIn a o hk,hc,hd,by simpa using hs⟩,?_⟩
  have e:=r.length
  simp only[Array.length_toList]at e
  omega
theorem Inv.tuple(I:Inv X pins σ H s)(h:SqT X.K H a xs):∃its:List Value,Vals xs its/\IsTup s.heap a its.toArray/\xs.length<=sizeLine:=by
 rcases h with h|⟨o,its,n,hk,hc,hs,hz,r⟩
 ·obtain⟨z,its,r,p⟩:=h.ok I.hok
  exact⟨its,r,p,z⟩
 ·refine⟨its.toList,r,⟨o,I.kIn a o hk,hc,n,by simpa using hs⟩,?_⟩
  have e:=r.length
  simp only[Array.length_toList]at e
  omega
theorem Inv.list_inj(I:Inv X pins σ H s)(h:SqL X.K H a xs)(h':SqL X.K H a ys):xs=ys:=by
 obtain⟨its,r,⟨o,n,e,_,_,d⟩,_⟩:=I.list h
 obtain⟨its',r',⟨o',n',e',_,_,d'⟩,_⟩:=I.list h'
 rw[e]at e';cases e'
 rw[d]at d'
 injection d' with d1 _
 have:its=its':=by simpa using Ob Array.toList d1
 subst this
 exact r.inj r'
theorem Inv.tuple_inj(I:Inv X pins σ H s)(h:SqT X.K H a xs)(h':SqT X.K H a ys):xs=ys:=by
 obtain⟨its,r,⟨o,e,_,n,d⟩,_⟩:=I.tuple h
 obtain⟨its',r',⟨o',e',_,n',d'⟩,_⟩:=I.tuple h'
 rw[e]at e';cases e'
 rw[d]at d'
 injection d' with d1 _
 have:its=its':=by simpa using Ob Array.toList d1
 subst this
 exact r.inj r'
end
abbrev Cx.wish(X:Cx)(E:Value->Shared->Prop):Cx:={X with xe:=E}
abbrev Cx.nox(X:Cx):Cx:=X.wish λ_ _=>False
theorem Cx.Ok.wish{X:Cx}(ok:X.Ok)(E:Value->Shared->Prop):(X.wish E).Ok :=
 ⟨ok.mod,ok.kind,ok.glob,ok.blt,ok.above,ok.inj,ok.has,ok.cab,ok.hd,ok.frames,ok.stk,ok.exf,ok.bs,ok.bsz,ok.noex,ok.exfs,ok.funs,ok.frf⟩
theorem Cx.Ok.unwish{X:Cx}{E:Value->Shared->Prop}(ok:(X.wish E).Ok):X.Ok :=
 ⟨ok.mod,ok.kind,ok.glob,ok.blt,ok.above,ok.inj,ok.has,ok.cab,ok.hd,ok.frames,ok.stk,ok.exf,ok.bs,ok.bsz,ok.noex,ok.exfs,ok.funs,ok.frf⟩
section
variable{X:Cx}{pins:List (Addr×Obj)}{σ:St}{H:Hp}{s:Shared}{E:Value->Shared->Prop}
theorem Inv.wish(I:Inv X pins σ H s)(E:Value->Shared->Prop):Inv (X.wish E) pins σ H s:=⟨I.ok.wish E,I.os,I.bare,I.base,I.loc,I.cell,I.free,I.freeC,I.pin,I.hok,I.len⟩
theorem Inv.unwish(I:Inv (X.wish E) pins σ H s):Inv X pins σ H s:=⟨I.ok.unwish,I.os,I.bare,I.base,I.loc,I.cell,I.free,I.freeC,I.pin,I.hok,I.len⟩
theorem SP.unwish{D:Ends}{f:Flow}{s':Shared}(h:SP (X.wish E) pins D f s'):SP X pins D f s':=by
 cases f with
 |next=>obtain⟨σ',H',I,q⟩:=h;exact⟨σ',H',I.unwish,q⟩
 |brk=>obtain⟨σ',H',I,q⟩:=h;exact⟨σ',H',I.unwish,q⟩
 |cont=>obtain⟨σ',H',I,q⟩:=h;exact⟨σ',H',I.unwish,q⟩
 |ret u=>obtain⟨v,σ',H',I,r,q⟩:=h;exact⟨v,σ',H',I.unwish,r,q⟩
theorem PSs.nox{st:List Stmt}{t:TS}(h:PSs X.nox st t):PSs X st t:=λpins s σ H D I hw =>
 Ox (h pins s σ H D (I.wish _) hw) (λ_ _ q=>q.unwish) λ_ _ z=>False.elim z
end
section
variable{X:Cx}{st:Stmt}{rest:List Stmt}{t u:TS}{e:Expr}{te:TE}{pos:Pos}
def jh6:TS:=λD σ H=>D.nx σ H
def tSeq(t u:TS):TS:=λD σ H=>t {D with nx:=u D} σ H
theorem pss_nil:PSs X [] jh6:=λ_ _ σ H _ I h=>Yp ⟨σ,H,I,h⟩
theorem pss_cons(h1:PS X st t)(h2:PSs X rest u):PSs X (st::rest) (tSeq t u):=by
 intro pins s σ H D I h
 refine wpAny_execs_cons (thn (h1 pins s σ H {D with nx:=u D} I h) λf s1 q=>?_)
 cases f with
 |next =>
  obtain⟨σ',H',I',q⟩:=q
  exact h2 pins s1 σ' H' D I' q
 |ret v=>exact q
 |brk=>exact q
 |cont=>exact q
theorem pss_one(h1:PS X st t):PSs X [st] t:=by
 intro pins s σ H D I h
 refine wpAny_execs_cons (thn (h1 pins s σ H D I h) λf s1 q=>?_)
 cases f with
 |next=>exact Yp q
 |ret v=>exact q
 |brk=>exact q
 |cont=>exact q
theorem Inv.quiet{pins:List (Addr×Obj)}{σ:St}{H:Hp}{s:Shared}(I:Inv X pins σ H s):interactive X.env=false:=by simp[interactive,I.ok.kind]
def jh3(te:TE):TS:=λD σ H=>te σ H λ_ H1=>D.nx σ H1
theorem ps_expr(he:PE X e te)(hs:swapsWith e none pos.line X.env=pure false:=by rfl):PS X (.Expr e pos) (jh3 te):=by
 intro pins s σ H D I h
 exact wpAny_Expr_any (thn (he pins s σ H _ I h) λv s1 ⟨x,H1,I1,r1,q1⟩=>⟨σ,H1,I1,q1⟩) I.quiet hs
def tRet(te:TE):TS:=λD σ H=>te σ H D.rt
theorem ps_ret(he:PE X e te):PS X (.Return (some e) pos) (tRet te):=by
 intro pins s σ H D I h
 exact wpAny_Return_some (thn (he pins s σ H _ I h) λv s1 ⟨x,H1,I1,r1,q1⟩=>⟨x,σ,H1,I1,r1,q1⟩)
def tIfS(c:TT)(t u:TS):TS:=λD σ H=>c σ H λb H1=>if b=true then t D σ H1 else u D σ H1
theorem ps_if{c:Expr}{a b:List Stmt}{tc:TT}(hc:PT X c tc)(ha:PSs X a t)(hb:PSs X b u):PS X (.If c a b pos) (tIfS tc t u):=by
 intro pins s σ H D I h
 refine wpAny_If (thn (hc pins s σ H _ I h) λd s1 ⟨H1,I1,q1⟩=>?_)
 cases d with
 |true=>exact ha pins s1 σ H1 D I1 q1
 |false=>exact hb pins s1 σ H1 D I1 q1
end
abbrev TG:=V->St->Hp->(St->Hp->Prop)->Prop
abbrev TGs:=List V->St->Hp->(St->Hp->Prop)->Prop
def PG(X:Cx)(target:Expr)(t:TG):Prop :=
 ∀(pins:List (Addr×Obj))(s:Shared)(σ:St)(H:Hp)(v:V)(u:Value)(Q:St->Hp->Prop),Inv X pins σ H s->RelV v u->t v σ H Q ->
  wpAny (model X.prog X.w) X.A (assign target X.env u) (λ_ s'=>∃σ' H',Inv X pins σ' H' s'/\Q σ' H') X.xe s
def PGs(X:Cx)(ts:List Expr)(t:TGs):Prop :=
 ∀(pins:List (Addr×Obj))(s:Shared)(σ:St)(H:Hp)(vs:List V)(us:List Value)(Q:St->Hp->Prop),Inv X pins σ H s->Vals vs us->t vs σ H Q ->
  wpAny (model X.prog X.w) X.A (assignInOrder ((assignEach ts X.env).map (·.2)) us) (λ_ s'=>∃σ' H',Inv X pins σ' H' s'/\Q σ' H') X.xe s
abbrev TSet:=V->V->V->Hp->(Hp->Prop)->Prop
def PSet(X:Cx)(t:TSet):Prop :=
 ∀(pins:List (Addr×Obj))(s:Shared)(σ:St)(H:Hp)(o i v:V)(ov iv u:Value)(Q:Hp->Prop),Inv X pins σ H s->RelV o ov->RelV i iv->RelV v u->t o i v H Q ->
  wpAny (model X.prog X.w) X.A (setItem ov iv u) (λ_ s'=>∃H',Inv X pins σ H' s'/\Q H') X.xe s
section
variable{X:Cx}{pos:Pos}
def jco(i:Nat):TG:=λv σ H Q=>Q (σ.set i (some v)) H
theorem pg_name{i:Nat}{x:Str}(hN:X.N.Nodup)(hi:X.N[i]?=some x)(hx:Loc X.env.scope x)(hf:X.fn x=true\/X.env.scope.names.lookup x=some .local:=by first|exact .inl rfl|exact .inr rfl|assumption):PG X (.Name x pos) (jco i):=by
 intro pins s σ H v u Q I r h
 exact W3 (jji I hN hi hx r (λs' I'=>⟨_,H,I',h⟩) hf)
def gNil:TGs:=λvs σ H Q=>vs=[]/\Q σ H
def jhq(t:TG)(u:TGs):TGs:=λvs σ H Q=>∃v r,vs=v::r/\t v σ H λσ' H'=>u r σ' H' Q
theorem pgs_nil:PGs X [] gNil:=by
 intro pins s σ H vs us Q I r h
 obtain⟨e,h⟩:=h
 subst e
 cases r
 exact assignInOrder_nil ⟨σ,H,I,h⟩
theorem pgs_cons{e:Expr}{es:List Expr}{t:TG}{u:TGs}(h1:PG X e t)(h2:PGs X es u)
  (hs:(assignEach (e::es) X.env).map (·.2)=assign e X.env::(assignEach es X.env).map (·.2):=by rfl):PGs X (e::es) (jhq t u):=by
 intro pins s σ H vs us Q I r h
 obtain⟨v,vr,e1,h⟩:=h
 subst e1
 cases r with
 |cons r rr =>
  rw[hs]
  refine assignInOrder_cons (thn (h1 pins s σ H _ _ _ I r h) λ_ s1 ⟨σ1,H1,I1,q1⟩=>?_)
  exact h2 pins s1 σ1 H1 _ _ Q I1 rr q1
def gTup(K:PySem.W.Frag)(n:Nat)(t:TGs):TG:=λv σ H Q=>∃a xs,v=.ref a/\SqT K H a xs/\xs.length=n/\t xs σ H Q
theorem pg_tup{es:List Expr}{k:Nat}{t:TGs}{n:Nat}(hc:X.calm=true)(h:PGs X es t)
  (hn:(assignEach es X.env).length=n:=by rfl) (hst:(assignEach es X.env).findIdx? (·.1)=none:=by rfl):PG X (.Tuple es k pos) (gTup X.K n t):=by
 intro pins s σ H v u Q I r hw
 obtain⟨a,xs,e1,hq,hl,hw⟩:=hw
 subst e1
 cases r
 obtain⟨its,rv,ht,hz⟩:=I.tuple hq
 refine assign_Tuple_tuple (I.ok.hd hc) ht (by simp[hn,<-hl,rv.length]) hst λh' hx=>?_
 have I1:Inv X pins σ H {s with heap:=h'}:=I.kept (t':=s.toks) λb o e=>hx b o (Ao (Al e)) e
 exact h pins _ σ H xs _ Q I1 (by simpa using rv) hw
def gSub(to ti:TE)(t:TSet):TG:=λv σ H Q=>to σ H λo H1=>ti σ H1 λi H2=>t o i v H2 λH3=>Q σ H3
theorem pg_sub{o i:Expr}{to ti:TE}{t:TSet}(ho:PE X o to)(hi:PE X i ti)(hs:PSet X t)
  (ha:∀v,assign (.Subscript o i pos) X.env v=(do
   let ov <-holding [v] (eval o X.env)
   let iv <-holding [v,ov] (eval i X.env)
   standAt pos
   holding [v,ov,iv] (setItem ov iv v)
   release [v,ov,iv] []):=by intro _;rfl):PG X (.Subscript o i pos) (gSub to ti t):=by
 intro pins s σ H v u Q I r h
 rw[ha]
 refine Aa (On (thn (ho pins s σ H _ I h) λov s1 ⟨x,H1,I1,r1,q1⟩=>?_))
 refine Aa (On (thn (hi pins s1 σ H1 _ I1 q1) λiv s2 ⟨y,H2,I2,r2,q2⟩=>?_))
 refine Aa (Wg (Aa (On (thn (hs pins s2 σ H2 x y v ov iv u _ I2 r1 r2 r q2) λ_ s3 ⟨H3,I3,q3⟩=>?_))))
 exact wpAny_release ⟨σ,H3,I3,q3⟩
def tAsg(te:TE)(g:TG):TS:=λD σ H=>te σ H λx H1=>g x σ H1 D.nx
theorem ps_asg{tg e:Expr}{te:TE}{g:TG}(he:PE X e te)(hg:PG X tg g)(hs:swapsWithSole [tg] e pos.line X.env=pure false:=by rfl)(hw:swappedStores [tg] e X.env=pure none:=by rfl)
  (h1:(assignEach [tg] X.env).map (·.2)=[assign tg X.env]:=by rfl):PS X (.Assign [tg] e pos) (tAsg te g):=by
 intro pins s σ H D I h
 refine wpAny_Assign_stores (thn (he pins s σ H _ I h) λv s1 ⟨x,H1,I1,r1,q1⟩=>?_) hs hw
 rw[h1]
 exact thn (hg pins s1 σ H1 x v _ I1 r1 q1) λ_ s2 q=>q
theorem ps_set{i:Nat}{x:Str}{e:Expr}{te:TE}{pos':Pos}(hN:X.N.Nodup)(hi:X.N[i]?=some x)(hx:Loc X.env.scope x)(he:PE X e te)(hs:swapsWith e (some (.Name x pos')) pos.line X.env=pure false:=by rfl)(hf:X.fn x=true\/X.env.scope.names.lookup x=some .local:=by first|exact .inl rfl|exact .inr rfl|assumption) :
  PS X (.Assign [.Name x pos'] e pos) (tAsg te (jco i)):=by
 intro pins s σ H D I h
 refine wpAny_Assign_Name (thn (he pins s σ H _ I h) λv s1 ⟨y,H1,I1,r1,q1⟩=>?_) hs
 exact jji I1 hN hi hx r1 (λs2 I2=>⟨_,H1,I2,q1⟩) hf
def jjm(c:TT)(tb:TS):TS:=λD σ H=>∃W:Nat->St->Hp->Prop,(∃m,W m σ H)/\∀m σ H,W m σ H ->
 c σ H λb H1=>if b=true then ∃N:St->Hp->Prop,(∀σ' H',N σ' H'->∃m',m'<m/\W m' σ' H')/\tb {D with nx:=N,ct:=N,bk:=D.nx} σ H1 else D.nx σ H1
theorem ps_while{c:Expr}{body:List Stmt}{tc:TT}{tb:TS}(hp:PassesOwn (model X.prog X.w) X.A X.env X.xe)(hc:PT X c tc)(hb:PSs X body tb):PS X (.While c body [] pos) (jjm tc tb):=by
 intro pins s σ H D I h
 obtain⟨W,⟨m0,w0⟩,turn⟩:=h
 refine wpAny_While (codeAny_whileLoop (λn s'=>∃σ' H',Inv X pins σ' H' s'/\W n σ' H') ?_ m0 ⟨σ,H,I,w0⟩)
 rintro n s1 ⟨σ1,H1,I1,w1⟩
 refine U0 hp (thn (hc pins s1 σ1 H1 _ I1 (turn n σ1 H1 w1)) λb s2 ⟨H2,I2,q2⟩=>?_)
 cases b with
 |true =>
  obtain⟨N,hN,q2⟩:=q2
  rw[Ap rfl]
  refine U0 hp (thn (hb pins s2 σ1 H2 _ I2 q2) λf s3 q3=>?_)
  cases f with
  |next =>
   obtain⟨σ3,H3,I3,n3⟩:=q3
   obtain⟨m',hm,w3⟩:=hN σ3 H3 n3
   exact⟨m',hm,σ3,H3,I3,w3⟩
  |cont =>
   obtain⟨σ3,H3,I3,n3⟩:=q3
   obtain⟨m',hm,w3⟩:=hN σ3 H3 n3
   exact⟨m',hm,σ3,H3,I3,w3⟩
  |brk=>exact q3
  |ret v=>exact q3
 |false =>
  rw[At A4]
  exact Yp ⟨σ1,H2,I2,q2⟩
end
structure It where
 go:Nat->Hp->Prop
 yld:Nat->Hp->V->Hp->Prop
 stop:Nat->Hp->Prop
def FpOk(X:Cx)(pins:List (Addr×Obj))(H:Hp)(b:Addr):Prop :=
 H b=none/\b≠X.env.locals/\b∉X.fs/\(b∈X.ex\/X.s₀.heap.objs.size<=b)/\(∀x c,X.env.cells.lookup x=some c->c≠b)/\∀p∈X.pn++pins,p.1≠b
theorem Inv.fpOk{X:Cx}{pins:List (Addr×Obj)}{σ:St}{H H':Hp}{s:Shared}{b:Addr}(I:Inv X pins σ H s)(hb:s.heap.objs.size<=b)(hn:H' b=none):FpOk X pins H' b:=by
 refine⟨hn,Uk (A0 I.lt hb),I.nofs hb,.inr (Io I.sz hb),λx c e z=>?_,λp hp z=>?_⟩
 ·obtain⟨v,q⟩:=I.cell x c e
  exact absurd (A0 q.lt (by rw[z];exact hb)) (O8 _)
 ·exact absurd (A0 (Al (I.pin p hp).1) (by rw[z];exact hb)) (O8 _)
structure Turn(P:Program)(w:World)(K:PySem.W.Frag)(tg:Expr)(J:It)(fp:List Addr)(it:Addr)(tn:Nat->Heap->Prop):Prop where
 mem:it∈fp
 obj:∀i h,tn i h->∀b∈fp,∃o,h.get? b=some o/\∀v,o.data≠.cell v
 keep:∀i h h',tn i h->(∀b∈fp,∀o,h.get? b=some o->h'.get? b=some o)->tn i h'
 item:∀(X:Cx),X.prog=P->X.w=w->X.K=K->X.calm=true->∀(i:Nat)(pins:List (Addr×Obj))(s:Shared)(σ:St)(H:Hp)(E:Value->Shared->Prop),Inv X pins σ H s->(∀b∈fp,FpOk X pins H b)->tn i s.heap->J.go i H ->
  wpAny (model P w) X.A (pyNext (.ref it)) (λr s1=>∃u,r=some u /\
   wpAny (model P w) X.A (letOwnedTupleGo tg (.ref it) u) (λ_ s2=>∃x H',Inv X pins σ H' s2/\RelV x u/\J.yld i H x H'/\tn (i+1) s2.heap/\∀b∈fp,H' b=none) E s1) E s
 done:∀(X:Cx),X.prog=P->X.w=w->X.K=K->X.calm=true->∀(i:Nat)(pins:List (Addr×Obj))(s:Shared)(σ:St)(H:Hp)(E:Value->Shared->Prop),Inv X pins σ H s->(∀b∈fp,FpOk X pins H b)->tn i s.heap->J.stop i H ->
  wpAny (model P w) X.A (pyNext (.ref it)) (λr s1=>r=none/\Inv X pins σ H s1) E s
 self:∀(A:Around)(i:Nat)(s:Shared)(Q:Value->Shared->Prop)(E:Value->Shared->Prop),tn i s.heap->Q (.ref it) s->wpAny (model P w) A (pyIter (.ref it)) Q E s
abbrev TI:=St->Hp->(It->Hp->Prop)->Prop
def PIE(X:Cx)(pins:List (Addr×Obj))(σ:St)(tg:Expr)(R:It->Hp->Prop)(itv:Value)(s2:Shared):Prop :=
 ∃(it:Addr)(fp:List Addr)(tn:Nat->Heap->Prop)(J:It)(H':Hp),itv=.ref it/\Inv X pins σ H' s2/\Turn X.prog X.w X.K tg J fp it tn/\tn 0 s2.heap/\(∀b∈fp,FpOk X pins H' b)/\R J H'
def PI(X:Cx)(tg iter:Expr)(wi:TI):Prop :=
 ∀(pins:List (Addr×Obj))(s:Shared)(σ:St)(H:Hp)(R:It->Hp->Prop),Inv X pins σ H s->wi σ H R ->
  wpAny (model X.prog X.w) X.A (eval iter X.env) (λv s1=>wpAny (model X.prog X.w) X.A (pyIter v) (PIE X pins σ tg R) X.xe s1) X.xe s
theorem jfp{M:Model}{A:Around}{E:Value->Shared->Prop}{s:Shared}{tg:Expr}{it:Addr}{u:Value}{o:Obj}{n:String}{vs:Array Value}{Q:Unit->Shared->Prop}(ho:s.heap.get? it=some o)(hc:o.cls=.type n)(hd:o.data=.fields vs)
  (hn:["enumerate","zip","dict_itemiterator","dict_reverseitemiterator","odict_iterator","itertools.zip_longest","itertools.pairwise"].contains n=false) (hQ:Q () s):wpAny M A (letOwnedTupleGo tg (.ref it) u) Q E s:=by
 unfold letOwnedTupleGo
 cases tg <;> first
  |exact Ab hQ
  |(cases u <;> first
    |exact Ab hQ
    |(refine Aa (wpAny_load ho ?_)
      rw[hc,hd]
      show wpAny M A (if(["enumerate","zip","dict_itemiterator","dict_reverseitemiterator","odict_iterator","itertools.zip_longest","itertools.pairwise"].contains n && vs[0]? == some (rawInt _))=true then _ else _) Q E s
      rw[At (by intro h;rw[hn,Bool.false_and]at h;cases h)]
      exact Ab hQ))
def Itl(K:PySem.W.Frag)(a:Addr):It :=
 ⟨λi H=>∃xs x,SqL K H a xs/\xs[i]?=some x,λi H x H'=>H'=H/\∀xs,SqL K H a xs->xs[i]?=some x,λi H=>∃xs,SqL K H a xs/\xs.length<=i⟩
def Itt(K:PySem.W.Frag)(a:Addr):It :=
 ⟨λi H=>∃xs x,SqT K H a xs/\xs[i]?=some x,λi H x H'=>H'=H/\∀xs,SqT K H a xs->xs[i]?=some x,λi H=>∃xs,SqT K H a xs/\xs.length<=i⟩
def Itr(lo:Int)(n:Nat):It:=⟨λi _=>i<n,λi H x H'=>H'=H/\x=.int (lo+i),λi _=>n<=i⟩
theorem jm7{P:Program}{w:World}{K:PySem.W.Frag}{tg:Expr}(a it:Addr):Turn P w K tg (Itl K a) [it] it (λi h=>h.IsListIter it a i) where
 mem:=by simp
 obj:=λi h st b hb=>by
  have e:b=it:=by simpa using hb
  subst e
  obtain⟨o,e,c,d⟩:=st
  exact⟨o,e,λv z=>by rw[d]at z;cases z⟩
 keep:=λi h h' st k=>st.at λo e=>k it (by simp) o e
 item:=by
  intro X hP hw hK hc i pins s σ H E I hf st hg
  subst hP hw hK
  obtain⟨xs,x,hq,hx⟩:=hg
  obtain⟨its,rv,p,hz⟩:=I.list hq
  obtain⟨u,hu,ru⟩:=rv.get hx
  obtain⟨f0,f1,f2,f3,f4,f5⟩:=hf it (by simp)
  refine wpAny_pyNext_list_item st p.isList (x:=u) (by simpa using hu) λh' st' sb=>?_
  have I1:Inv X pins σ H {s with heap:=h'}:=I.turned (t':=s.toks) (λb o hb e=>(sb.2 b hb).trans e) f0 f1 f3 f4 f5
  obtain⟨o,e,c,d⟩:=id st'
  exact⟨u,rfl,jfp (s:={s with heap:=h'}) e c d (by decide) ⟨x,H,I1,ru,⟨rfl,λys hy=>by rw[I.list_inj hy hq];exact hx⟩,st',λb hb=>(hf b hb).1⟩⟩
 done:=by
  intro X hP hw hK hc i pins s σ H E I hf st hg
  subst hP hw hK
  obtain⟨xs,hq,hx⟩:=hg
  obtain⟨its,rv,p,hz⟩:=I.list hq
  obtain⟨f0,f1,f2,f3,f4,f5⟩:=hf it (by simp)
  have hl:=rv.length
  exact wpAny_pyNext_list_end (I.ok.hd hc) st p.isList (by simp;omega) λh' eb=>⟨rfl,I.turned (t':=s.toks) (λb o hb e=>eb b o hb e) f0 f1 f3 f4 f5⟩
 self:=λ_ _ _ _ _ st h=>wpAny_pyIter_listiter st h
theorem jf4{P:Program}{w:World}{K:PySem.W.Frag}{tg:Expr}(a it:Addr):Turn P w K tg (Itt K a) [it] it (λi h=>h.IsTupleIter it a i) where
 mem:=by simp
 obj:=λi h st b hb=>by
  have e:b=it:=by simpa using hb
  subst e
  obtain⟨o,e,c,d⟩:=st
  exact⟨o,e,λv z=>by rw[d]at z;cases z⟩
 keep:=λi h h' st k=>st.at λo e=>k it (by simp) o e
 item:=by
  intro X hP hw hK hc i pins s σ H E I hf st hg
  subst hP hw hK
  obtain⟨xs,x,hq,hx⟩:=hg
  obtain⟨its,rv,p,hz⟩:=I.tuple hq
  obtain⟨u,hu,ru⟩:=rv.get hx
  obtain⟨f0,f1,f2,f3,f4,f5⟩:=hf it (by simp)
  refine wpAny_pyNext_tuple_item st (show s.heap.IsTuple a its.toArray from p) (x:=u) (by simpa using hu) λh' st' sb=>?_
  have I1:Inv X pins σ H {s with heap:=h'}:=I.turned (t':=s.toks) (λb o hb e=>(sb.2 b hb).trans e) f0 f1 f3 f4 f5
  obtain⟨o,e,c,d⟩:=id st'
  exact⟨u,rfl,jfp (s:={s with heap:=h'}) e c d (by decide) ⟨x,H,I1,ru,⟨rfl,λys hy=>by rw[I.tuple_inj hy hq];exact hx⟩,st',λb hb=>(hf b hb).1⟩⟩
 done:=by
  intro X hP hw hK hc i pins s σ H E I hf st hg
  subst hP hw hK
  obtain⟨xs,hq,hx⟩:=hg
  obtain⟨its,rv,p,hz⟩:=I.tuple hq
  obtain⟨f0,f1,f2,f3,f4,f5⟩:=hf it (by simp)
  have hl:=rv.length
  exact wpAny_pyNext_tuple_end (I.ok.hd hc) st (show s.heap.IsTuple a its.toArray from p) (by simp;omega) λh' eb=>⟨rfl,I.turned (t':=s.toks) (λb o hb e=>eb b o hb e) f0 f1 f3 f4 f5⟩
 self:=λ_ _ _ _ _ st h=>wpAny_pyIter_tupleiter st h
theorem jlw{P:Program}{w:World}{K:PySem.W.Frag}{tg:Expr}(it:Addr)(lo:Int)(n:Nat):Turn P w K tg (Itr lo n) [it] it (λi h=>IsRangeIter h it (lo+(i:Nat)*1) ((n:Int)-(i:Nat)) 1) where
 mem:=by simp
 obj:=λi h st b hb=>by
  have e:b=it:=by simpa using hb
  subst e
  exact⟨_,st,λv z=>by
   have z':Data.fields _=Data.cell v:=z
   cases z'⟩
 keep:=λi h h' st k=>k it (by simp) _ st
 item:=by
  intro X hP hw hK hc i pins s σ H E I hf st hg
  subst hP hw hK
  obtain⟨f0,f1,f2,f3,f4,f5⟩:=hf it (by simp)
  have W:=Walks.range (prog:=X.prog) (w:=X.w) (I.ok.hd hc) it lo 1 n
  refine W.item i s _ _ hg st λv h' tk hv st' kk=>?_
  obtain⟨t,rfl⟩:=hv
  have I1:Inv X pins σ H {s with heap:=h',toks:=tk}:=I.turned (λb o hb e=>kk b o (by simpa using hb) e) f0 f1 f3 f4 f5
  refine⟨_,rfl,jfp (s:={s with heap:=h',toks:=tk}) (n:="range_iterator") st' rfl rfl (by decide) ⟨.int (lo+i),H,I1,⟨t,?_⟩,⟨rfl,rfl⟩,st',λb hb=>(hf b hb).1⟩⟩
  rw[Int.mul_one]
 done:=by
  intro X hP hw hK hc i pins s σ H E I hf st hg
  subst hP hw hK
  obtain⟨f0,f1,f2,f3,f4,f5⟩:=hf it (by simp)
  exact wpAny_pyNext_range_end (I.ok.hd hc) st (by have:n<=i:=hg;omega) λh' eb=>⟨rfl,I.turned (t':=s.toks) (λb o hb e=>eb b o hb e) f0 f1 f3 f4 f5⟩
 self:=λ_ _ _ _ _ st h=>wpAny_pyIter_rangeiter st h
section
variable{X:Cx}{tg:Expr}
def iTup(K:PySem.W.Frag)(tl:TE):TI:=λσ H R=>tl σ H λx H1=>∃a,x=.ref a/\(∃xs,SqT K H1 a xs)/\R (Itt K a) H1
theorem pi_tup{l:Expr}{tl:TE}(hl:PE X l tl):PI X tg l (iTup X.K tl):=by
 intro pins s σ H R I h
 refine thn (hl pins s σ H _ I h) λv s1 ⟨x,H1,I1,r1,q1⟩=>?_
 obtain⟨a,e,⟨xs,hq⟩,q⟩:=q1
 subst e
 cases r1
 obtain⟨its,rv,p,hz⟩:=I1.tuple hq
 refine Wu (show s1.heap.IsTuple a its.toArray from p) ?_
 refine⟨s1.heap.objs.size,[s1.heap.objs.size],_,_,H1,rfl,I1.kept (t':=s1.toks) λb o e=>Ac _ e,jf4 a _,⟨_,Ai _ rfl,rfl,rfl⟩,λb hb=>?_,q⟩
 have e:b=s1.heap.objs.size:=by simpa using hb
 subst e
 exact I1.fpOk (Af _) (I1.hok.fresh (Af _))
theorem jn1{pins:List (Addr×Obj)}{σ:St}{H:Hp}{s:Shared}{R:It->Hp->Prop}{E:Value->Shared->Prop}{lo hi:Int}{t u v:Tok}{tk:Nat}(I:Inv X pins σ H s)(h1:-(2^62)<=lo)(h2:lo<2^62)(h3:-(2^62)<=hi)(h4:hi<2^62)
  (q:R (Itr lo (hi-lo).toNat) H):wpAny (model X.prog X.w) X.A (pyIter (.ref s.heap.objs.size)) (PIE X pins σ tg R) E {s with heap:=s.heap.push {cls:=.type "range",data:=.fields #[.int lo t,.int hi u,.int 1 v]},toks:=tk}:=by
 refine wpAny_pyIter_range (IsRange.new ..) (small_one h1 h2 h3 h4) ?_
 have I1:Inv X pins σ H {s with heap:=s.heap.push {cls:=.type "range",data:=.fields #[.int lo t,.int hi u,.int 1 v]},toks:=tk}:=I.kept λb o e=>Ac _ e
 refine⟨(s.heap.push {cls:=.type "range",data:=.fields #[.int lo t,.int hi u,.int 1 v]}).objs.size,[(s.heap.push {cls:=.type "range",data:=.fields #[.int lo t,.int hi u,.int 1 v]}).objs.size],_,_,H,rfl,
  I1.kept (t':=tk) λb o e=>Ac _ e,jlw _ lo (hi-lo).toNat,?_,λb hb=>?_,q⟩
 ·have e1:lo+((0:Nat):Int)*1=lo:=by simp
  have e2:(((hi-lo).toNat:Nat):Int)-((0:Nat):Int)=Builtin.Range.rangeSize lo hi 1:=by rw[rangeSize_one];split <;> omega
  show IsRangeIter _ _ (lo+((0:Nat):Int)*1) ((((hi-lo).toNat:Nat):Int)-((0:Nat):Int)) 1
  rw[e1,e2]
  exact Ai _ rfl
 ·have e:b=(s.heap.push {cls:=.type "range",data:=.fields #[.int lo t,.int hi u,.int 1 v]}).objs.size:=by simpa using hb
  subst e
  exact I1.fpOk (Af _) (I1.hok.fresh (Af _))
def jhs(ta:TA):TI:=λσ H R=>ta σ H λvs H1=>∃j:Int,vs=[.int j]/\-(2^62)<=j/\j<2^62/\R (Itr 0 j.toNat) H1
theorem pi_range1{a:Expr}{ta:TA}{p pos:Pos}(hg:Gl X "range")(hm:X.mg "range"=none)(ha:PA X [a] ta)(hs:starEach [a] X.env=[(false,eval a X.env)]:=by rfl):PI X tg (.Call (.Name "range" p) [a] [] pos) (jhs ta):=by
 intro pins s σ H R I h
 refine Call_ (jdj I hg hm boot_range (Uf (thn (ha pos pins s σ H _ I h) λus s1 ⟨vs,H1,I1,r1,q1⟩=>?_) hs rfl))
 obtain⟨j,e,q1,q2,q⟩:=q1
 subst e
 cases r1 with
 |cons r rr =>
  cases rr
  obtain⟨t,rfl⟩:=r
  exact call_range_1 (jn1 I1 (by omega) (by omega) q1 q2 (by simpa using q))
def tFor(wi:TI)(g:TG)(tb:TS):TS:=λD σ H=>wi σ H λJ H1=>∃W:Nat->Nat->St->Hp->Prop,(∃m,W 0 m σ H1)/\∀i m σ H,W i m σ H ->
 (J.stop i H/\D.nx σ H)\/(J.go i H/\∃N:St->Hp->Prop,(∀σ' H',N σ' H'->∃m',m'<m/\W (i+1) m' σ' H')/\∀x H',J.yld i H x H'->g x σ H' λσ2 H2=>tb {D with nx:=N,ct:=N,bk:=D.nx} σ2 H2)
def jek(fp:List Addr)(h:Heap):List (Addr×Obj):=fp.filterMap λb=>(h.get? b).map λo=>(b,o)
theorem jc1{fp:List Addr}{h:Heap}{b:Addr}{o:Obj}(hb:b∈fp)(e:h.get? b=some o):(b,o)∈jek fp h:=List.mem_filterMap.mpr ⟨b,hb,by rw[e];rfl⟩
theorem jms{fp:List Addr}{h:Heap}{p:Addr×Obj}(hp:p∈jek fp h):p.1∈fp/\h.get? p.1=some p.2:=by
 obtain⟨b,hb,e⟩:=List.mem_filterMap.mp hp
 cases q:h.get? b with
 |none=>rw[q]at e;cases e
 |some o =>
  rw[q]at e
  have e':(b,o)=p:=Av e
  subst e'
  exact⟨hb,q⟩
theorem Inv.pinned{pins:List (Addr×Obj)}{σ:St}{H:Hp}{s:Shared}{fp:List Addr}(I:Inv X pins σ H s)(hf:∀b∈fp,FpOk X pins H b)(ho:∀b∈fp,∃o,s.heap.get? b=some o/\∀v,o.data≠.cell v):Inv X (pins++jek fp s.heap) σ H s :=
 I.pins_of λp hp=>(Is.mp hp).elim (λz=>I.pin p (A2 _ z)) λz=>by
  obtain⟨hb,e⟩:=jms z
  obtain⟨f0,f1,f2,_⟩:=hf p.1 hb
  obtain⟨o,e',d⟩:=ho p.1 hb
  rw[e]at e';cases e'
  exact⟨e,f0,f1,f2,d⟩
theorem Inv.unpinned{pins pl:List (Addr×Obj)}{σ:St}{H:Hp}{s:Shared}(I:Inv X (pins++pl) σ H s):Inv X pins σ H s:=I.pins_of λp hp=>I.pin p (A2 _ (Uc _ hp))
theorem ps_for{iter:Expr}{body:List Stmt}{wi:TI}{g:TG}{tb:TS}{pos:Pos}(hp:PassesOwn (model X.prog X.w) X.A X.env X.xe)(hc:X.calm=true)(hi:PI X tg iter wi)(hg:PG X tg g)(hb:PSs X body tb)
  (hs:∀x,foldedSetIterable iter X.env x=pure x:=by intro _;rfl):PS X (.For tg iter body [] pos) (tFor wi g tb):=by
 intro pins s σ H D I h
 refine wpAny_For (thn (hi pins s σ H _ I h) λv s1 h1=>thn h1 λitv s2 h2=>?_) hs
 obtain⟨it,fp,tn,J,H2,e,I2,T,st2,f2,W,⟨m0,w0⟩,turn⟩:=h2
 subst e
 have stat:∀{H':Hp},(∀b∈fp,H' b=none)->∀b∈fp,FpOk X pins H' b:=λhn b hb=>⟨hn b hb,(f2 b hb).2⟩
 refine codeAny_forLoop_any (λn s'=>∃i σ' H',Inv X pins σ' H' s'/\tn i s'.heap/\(∀b∈fp,H' b=none)/\W i n σ' H') ?_ m0 ⟨0,σ,H2,I2,st2,λb hb=>(f2 b hb).1,w0⟩
 rintro n s3 ⟨i,σ3,H3,I3,st3,fr3,w3⟩
 rcases turn i n σ3 H3 w3 with⟨stop,qn⟩|⟨go,N,hN,step⟩
 ·refine U0 hp (thn (T.done X rfl rfl rfl hc i pins s3 σ3 H3 X.xe I3 (stat fr3) st3 stop) λr s4 ⟨hr,I4⟩=>?_)
  subst hr
  exact Yp ⟨σ3,H3,I4,qn⟩
 ·refine U0 hp (thn (T.item X rfl rfl rfl hc i pins s3 σ3 H3 X.xe I3 (stat fr3) st3 go) λr s4 ⟨u,hr,h4⟩=>?_)
  subst hr
  refine U0 hp (thn h4 λ_ s5 ⟨x,H5,I5,r5,y5,st5,fr5⟩=>?_)
  have I5':=I5.pinned (stat fr5) (T.obj _ _ st5)
  refine U0 hp (thn (hg _ s5 σ3 H5 x u _ I5' r5 (step x H5 y5)) λ_ s6 ⟨σ6,H6,I6,q6⟩=>?_)
  refine U0 hp (thn (hb _ s6 σ6 H6 _ I6 q6) λf s7 q7=>?_)
  have again:∀{σ7:St}{H7:Hp},Inv X (pins++jek fp s5.heap) σ7 H7 s7->N σ7 H7->∃m,m<n/\∃i σ' H',Inv X pins σ' H' s7/\tn i s7.heap/\(∀b∈fp,H' b=none)/\W i m σ' H':=fun{σ7 H7} I7 n7=>by
   obtain⟨m',hm,w7⟩:=hN σ7 H7 n7
   refine⟨m',hm,i+1,σ7,H7,I7.unpinned,T.keep _ _ _ st5 λb hb o e=>(I7.pin (b,o) (A2 _ (A2 _ (jc1 hb e)))).1,λb hb=>?_,w7⟩
   obtain⟨o,e,d⟩:=T.obj _ _ st5 b hb
   exact(I7.pin (b,o) (A2 _ (A2 _ (jc1 hb e)))).2.1
  cases f with
  |next=>obtain⟨σ7,H7,I7,n7⟩:=q7;exact again I7 n7
  |cont=>obtain⟨σ7,H7,I7,n7⟩:=q7;exact again I7 n7
  |brk=>obtain⟨σ7,H7,I7,q7⟩:=q7;exact⟨σ7,H7,I7.unpinned,q7⟩
  |ret v=>obtain⟨x7,σ7,H7,I7,r7,q7⟩:=q7;exact⟨x7,σ7,H7,I7.unpinned,r7,q7⟩
end
theorem jnn{K:PySem.W.Frag}{a:Addr}{xs:List V}{g:TG}{tb:TS}{D:Ends}{σ:St}{H:Hp}(Pv:Nat->St->Hp->Prop)(h0:Pv 0 σ H)(hl:∀i σ H,i<=xs.length->Pv i σ H->SqL K H a xs)
  (hs:∀i x σ H,xs[i]?=some x->Pv i σ H->g x σ H λσ2 H2=>tb {D with nx:=Pv (i+1),ct:=Pv (i+1),bk:=D.nx} σ2 H2) (hd:∀σ H,Pv xs.length σ H->D.nx σ H) :
  ∃W:Nat->Nat->St->Hp->Prop,(∃m,W 0 m σ H)/\∀i m σ H,W i m σ H ->
   ((Itl K a).stop i H/\D.nx σ H)\/((Itl K a).go i H/\∃N:St->Hp->Prop,(∀σ' H',N σ' H'->∃m',m'<m/\W (i+1) m' σ' H')/\∀x H',(Itl K a).yld i H x H'->g x σ H' λσ2 H2=>tb {D with nx:=N,ct:=N,bk:=D.nx} σ2 H2):=by
 refine⟨λi m σ H=>m=xs.length-i/\i<=xs.length/\Pv i σ H,⟨xs.length,by simp,Ou _,h0⟩,?_⟩
 rintro i m σ H ⟨rfl,hi,p⟩
 have q:=hl i σ H hi p
 by_cases hlt:i<xs.length
 ·refine .inr ⟨⟨xs,xs[i],q,by simp[hlt]⟩,Pv (i+1),λσ' H' p'=>⟨xs.length-(i+1),by omega,rfl,hlt,p'⟩,λx H' y=>?_⟩
  obtain⟨e,y⟩:=y
  subst e
  exact hs i x σ _ (y xs q) p
 ·have e:i=xs.length:=by omega
  subst e
  exact .inl ⟨⟨xs,q,Af _⟩,hd σ H p⟩
theorem jj7{K:PySem.W.Frag}{a:Addr}{xs:List V}{g:TG}{tb:TS}{D:Ends}{σ:St}{H:Hp}(Pv:Nat->St->Hp->Prop)(h0:Pv 0 σ H)(hl:∀i σ H,i<=xs.length->Pv i σ H->SqT K H a xs)
  (hs:∀i x σ H,xs[i]?=some x->Pv i σ H->g x σ H λσ2 H2=>tb {D with nx:=Pv (i+1),ct:=Pv (i+1),bk:=D.nx} σ2 H2) (hd:∀σ H,Pv xs.length σ H->D.nx σ H) :
  ∃W:Nat->Nat->St->Hp->Prop,(∃m,W 0 m σ H)/\∀i m σ H,W i m σ H ->
   ((Itt K a).stop i H/\D.nx σ H)\/((Itt K a).go i H/\∃N:St->Hp->Prop,(∀σ' H',N σ' H'->∃m',m'<m/\W (i+1) m' σ' H')/\∀x H',(Itt K a).yld i H x H'->g x σ H' λσ2 H2=>tb {D with nx:=N,ct:=N,bk:=D.nx} σ2 H2):=by
 refine⟨λi m σ H=>m=xs.length-i/\i<=xs.length/\Pv i σ H,⟨xs.length,by simp,Ou _,h0⟩,?_⟩
 rintro i m σ H ⟨rfl,hi,p⟩
 have q:=hl i σ H hi p
 by_cases hlt:i<xs.length
 ·refine .inr ⟨⟨xs,xs[i],q,by simp[hlt]⟩,Pv (i+1),λσ' H' p'=>⟨xs.length-(i+1),by omega,rfl,hlt,p'⟩,λx H' y=>?_⟩
  obtain⟨e,y⟩:=y
  subst e
  exact hs i x σ _ (y xs q) p
 ·have e:i=xs.length:=by omega
  subst e
  exact .inl ⟨⟨xs,q,Af _⟩,hd σ H p⟩
theorem jmc{lo:Int}{n:Nat}{g:TG}{tb:TS}{D:Ends}{σ:St}{H:Hp}(Pv:Nat->St->Hp->Prop)(h0:Pv 0 σ H)
  (hs:∀i σ H,i<n->Pv i σ H->g (.int (lo+i)) σ H λσ2 H2=>tb {D with nx:=Pv (i+1),ct:=Pv (i+1),bk:=D.nx} σ2 H2) (hd:∀σ H,Pv n σ H->D.nx σ H) :
  ∃W:Nat->Nat->St->Hp->Prop,(∃m,W 0 m σ H)/\∀i m σ H,W i m σ H ->
   ((Itr lo n).stop i H/\D.nx σ H)\/((Itr lo n).go i H/\∃N:St->Hp->Prop,(∀σ' H',N σ' H'->∃m',m'<m/\W (i+1) m' σ' H')/\∀x H',(Itr lo n).yld i H x H'->g x σ H' λσ2 H2=>tb {D with nx:=N,ct:=N,bk:=D.nx} σ2 H2):=by
 refine⟨λi m σ H=>m=n-i/\i<=n/\Pv i σ H,⟨n,by simp,Ou _,h0⟩,?_⟩
 rintro i m σ H ⟨rfl,hi,p⟩
 by_cases hlt:i<n
 ·refine .inr ⟨hlt,Pv (i+1),λσ' H' p'=>⟨n-(i+1),by omega,rfl,hlt,p'⟩,λx H' y=>?_⟩
  obtain⟨e,y⟩:=y
  subst e y
  exact hs i σ _ hlt p
 ·have e:i=n:=by omega
  subst e
  exact .inl ⟨Af _,hd σ H p⟩
theorem jod{c:TT}{tb:TS}{D:Ends}{σ:St}{H:Hp}(Pv:St->Hp->Prop)(μ:St->Hp->Nat)(h0:Pv σ H)
  (hs:∀σ H,Pv σ H->c σ H λb H1=>if b=true then tb {D with nx:=λσ' H'=>Pv σ' H'/\μ σ' H'<μ σ H,ct:=λσ' H'=>Pv σ' H'/\μ σ' H'<μ σ H,bk:=D.nx} σ H1 else D.nx σ H1)
  (mono:∀σ H Q Q',(∀b H1,Q b H1->Q' b H1)->c σ H Q->c σ H Q'):jjm c tb D σ H:=by
 refine⟨λm σ H=>m=μ σ H/\Pv σ H,⟨_,rfl,h0⟩,?_⟩
 rintro m σ H ⟨rfl,p⟩
 refine mono σ H _ _ (λb H1 q=>?_) (hs σ H p)
 cases b with
 |true=>exact⟨_,λσ' H' ⟨p',l⟩=>⟨_,l,rfl,p'⟩,q⟩
 |false=>exact q
abbrev R2:=V->V->Hp->VK->Prop
def OpR(X:Cx)(f:Value->Value->Sem Value)(r:R2):Prop :=
 ∀(pins:List (Addr×Obj))(s:Shared)(σ:St)(H:Hp)(x y:V)(v u:Value)(Q:VK),Inv X pins σ H s->RelV x v->RelV y u->r x y H Q ->
  wpAny (model X.prog X.w) X.A (f v u) (EP X pins σ Q) X.xe s
def UnR(X:Cx)(f:Value->Sem Value)(r:V->Hp->VK->Prop):Prop :=
 ∀(pins:List (Addr×Obj))(s:Shared)(σ:St)(H:Hp)(x:V)(v:Value)(Q:VK),Inv X pins σ H s->RelV x v->r x H Q ->
  wpAny (model X.prog X.w) X.A (f v) (EP X pins σ Q) X.xe s
def jct(X:Cx)(f:Value)(r:List V->Hp->VK->Prop):Prop :=
 ∀(pins:List (Addr×Obj))(s:Shared)(σ:St)(H:Hp)(xs:List V)(us:List Value)(Q:VK),Inv X pins σ H s->Vals xs us->r xs H Q ->
  wpAny (model X.prog X.w) X.A (call f us) (EP X pins σ Q) X.xe s
def tOp(r:R2)(ta tb:TE):TE:=λσ H Q=>ta σ H λx H1=>tb σ H1 λy H2=>r x y H2 Q
def tUn(r:V->Hp->VK->Prop)(ta:TE):TE:=λσ H Q=>ta σ H λx H1=>r x H1 Q
def rI(C:Int->Int->Prop)(g:Int->Int->V):R2:=λx y H Q=>∃i j,x=.int i/\y=.int j/\C i j/\Q (g i j) H
def rI0(g:Int->Int->V):R2:=λx y H Q=>∃i j,x=.int i/\y=.int j/\Q (g i j) H
def rU(g:Int->V):V->Hp->VK->Prop:=λx H Q=>∃i,x=.int i/\Q (g i) H
section
variable{X:Cx}{a b c:Expr}{ta tb tc:TE}{pos:Pos}
theorem binT(ha:PE X a ta)(hb:PE X b tb){pins:List (Addr×Obj)}{s:Shared}{σ:St}{H:Hp}{R:V->V->Hp->Prop}(I:Inv X pins σ H s)
  (h:ta σ H λx H1=>tb σ H1 λy H2=>R x y H2) {Q:Value->Shared->Prop}{f:Value->Value->Sem Value}
  (hf:∀v u s2 x y H2,Inv X pins σ H2 s2->RelV x v->RelV y u->R x y H2->wpAny (model X.prog X.w) X.A (f v u) Q X.xe s2) :
  wpAny (model X.prog X.w) X.A (eval a X.env) (λv s₁=>wpAny (model X.prog X.w) X.A (eval b X.env) (λu s₂=>wpAny (model X.prog X.w) X.A (f v u) Q X.xe s₂) X.xe s₁) X.xe s:=by
 refine thn (ha pins s σ H _ I h) λv s1 ⟨x,H1,I1,r1,q1⟩=>?_
 refine thn (hb pins s1 σ H1 _ I1 q1) λu s2 ⟨y,H2,I2,r2,q2⟩=>?_
 exact hf v u s2 x y H2 I2 r1 r2 q2
theorem pe_op{op:Operator}{r:R2}(ho:OpR X (binaryOp op) r)(ha:PE X a ta)(hb:PE X b tb):PE X (.BinOp a op b pos) (tOp r ta tb):=by
 intro pins s σ H Q I h
 exact wpAny_BinOp (binT ha hb I h λv u s2 x y H2 I2 rx ry q=>ho pins s2 σ H2 x y v u Q I2 rx ry q)
theorem pe_un{op:UnaryOp}{r:V->Hp->VK->Prop}(ho:UnR X (unaryOp op) r)(ha:PE X a ta):PE X (.UnaryOp op a pos) (tUn r ta):=by
 intro pins s σ H Q I h
 exact UnaryOp_ (thn (ha pins s σ H _ I h) λv s1 ⟨x,H1,I1,r1,q1⟩=>ho pins s1 σ H1 x v Q I1 r1 q1)
theorem opI{f:Value->Value->Sem Value}{C:Int->Int->Prop}{g:Int->Int->Int}
  (rule:∀(i j:Int)(t u:Tok)(s:Shared)(Q:Value->Shared->Prop)(E:Value->Shared->Prop),C i j->Q (.int (g i j) s.toks) {s with toks:=s.toks+1}->wpAny (model X.prog X.w) X.A (f (.int i t) (.int j u)) Q E s) :
  OpR X f (rI C λi j=>.int (g i j)):=by
 intro pins s σ H x y v u Q I rx ry h
 obtain⟨i,j,rfl,rfl,hc,q⟩:=h
 obtain⟨t,rfl⟩:=rx
 obtain⟨t',rfl⟩:=ry
 exact rule i j t t' s _ _ hc ⟨.int (g i j),H,I.tok _,⟨_,rfl⟩,q⟩
theorem opI0{f:Value->Value->Sem Value}{g:Int->Int->Int}
  (rule:∀(i j:Int)(t u:Tok)(s:Shared)(Q:Value->Shared->Prop)(E:Value->Shared->Prop),Q (.int (g i j) s.toks) {s with toks:=s.toks+1}->wpAny (model X.prog X.w) X.A (f (.int i t) (.int j u)) Q E s) :
  OpR X f (rI0 λi j=>.int (g i j)):=by
 intro pins s σ H x y v u Q I rx ry h
 obtain⟨i,j,rfl,rfl,q⟩:=h
 obtain⟨t,rfl⟩:=rx
 obtain⟨t',rfl⟩:=ry
 exact rule i j t t' s _ _ ⟨.int (g i j),H,I.tok _,⟨_,rfl⟩,q⟩
theorem opB0{f:Value->Value->Sem Value}{g:Int->Int->Bool}
  (rule:∀(i j:Int)(t u:Tok)(s:Shared)(Q:Value->Shared->Prop)(E:Value->Shared->Prop),Q (.bool (g i j)) s->wpAny (model X.prog X.w) X.A (f (.int i t) (.int j u)) Q E s) :
  OpR X f (rI0 λi j=>.bl (g i j)):=by
 intro pins s σ H x y v u Q I rx ry h
 obtain⟨i,j,rfl,rfl,q⟩:=h
 obtain⟨t,rfl⟩:=rx
 obtain⟨t',rfl⟩:=ry
 exact rule i j t t' s _ _ ⟨.bl (g i j),H,I,rfl,q⟩
def CDiv(i j:Int):Prop:=0<j/\j<1073741824
def CPow(i j:Int):Prop:=0<=j/\j<=1000000/\i.natAbs<2^64
def CMul(i j:Int):Prop:=(-(2^64)<i/\i<2^64)\/(-(2^64)<j/\j<2^64)
theorem CMul.ok{i j:Int}(h:CMul i j):IntMulOk i j:=by
 rcases h with⟨h1,h2⟩|⟨h1,h2⟩
 ·exact .of_left (intBits_le_64 h1 h2)
 ·exact .of_right (intBits_le_64 h1 h2)
theorem op_add:OpR X (binaryOp .Add) (rI0 λi j=>.int (i+j)):=opI0 λ_ _ _ _ _ _ _ q=>add_int q
theorem jac:OpR X (binaryOp .Sub) (rI0 λi j=>.int (i-j)):=opI0 λ_ _ _ _ _ _ _ q=>sub_int q
theorem op_mul:OpR X (binaryOp .Mult) (rI CMul λi j=>.int (i*j)):=opI λ_ _ _ _ _ _ _ hc q=>mul_int q hc.ok
theorem jbg:OpR X (binaryOp .FloorDiv) (rI CDiv λi j=>.int (i / j)):=opI λi j _ _ _ _ _ hc q=>by
 have h1:(0:Int)<j:=hc.1
 have h2:j<1073741824:=hc.2
 exact floordiv_int (by omega) (by rw[Int.fdiv_eq_ediv_of_nonneg i (by omega)];exact q) (.inl (PyProof.noPylong_small (by omega)))
theorem zt:OpR X (binaryOp .Mod) (rI (λ_ j=>0<j) λi j=>.int (i%j)):=opI λi j _ _ _ _ _ hc q=>by
 have h1:(0:Int)<j:=hc
 exact mod_int' (by omega) (by rw[Int.fmod_eq_emod_of_nonneg i (by omega)];exact q)
theorem op_pow:OpR X (binaryOp .Pow) (rI CPow λi j=>.int (i^j.toNat)):=opI λ_ _ _ _ _ _ _ hc q=>pow_int_small hc.1 hc.2.1 hc.2.2 q
theorem unI{f:Value->Sem Value}{g:Int->Int}
  (rule:∀(i:Int)(t:Tok)(s:Shared)(Q:Value->Shared->Prop)(E:Value->Shared->Prop),Q (.int (g i) s.toks) {s with toks:=s.toks+1}->wpAny (model X.prog X.w) X.A (f (.int i t)) Q E s) :
  UnR X f (rU λi=>.int (g i)):=by
 intro pins s σ H x v Q I rx h
 obtain⟨i,rfl,q⟩:=h
 obtain⟨t,rfl⟩:=rx
 exact rule i t s _ _ ⟨.int (g i),H,I.tok _,⟨_,rfl⟩,q⟩
theorem jf5:UnR X (unaryOp .USub) (rU λi=>.int (-i)):=unI λ_ _ _ _ _ q=>neg_int q
end
def scal:V->V->Bool
 |.non,.non=>true|.non,.int _=>true|.int _,.non=>true|.non,.bl _=>true|.bl _,.non=>true|.non,.str _=>true|.str _,.non=>true
 |.int _,.int _=>true|.bl _,.bl _=>true|.str _,.str _=>true|.byt _,.byt _=>true
 |.int _,.str _=>true|.str _,.int _=>true|.bl _,.str _=>true|.str _,.bl _=>true
 |_,_=>false
def rEq:R2:=λx y H Q=>scal x y=true/\Q (.bl (decide (x=y))) H
def rNe:R2:=λx y H Q=>scal x y=true/\Q (.bl (!decide (x=y))) H
theorem jj3{i j:Int}:decide (V.int i=V.int j)=(i == j):=by
 rw[U1]
 simp
theorem jl7{i j:Bool}:decide (V.bl i=V.bl j)=(i == j):=by
 rw[U1]
 simp
theorem jj4{i j:Str}:decide (V.str i=V.str j)=(i == j):=by
 rw[U1]
 simp
theorem jj2{i j:Array UInt8}:decide (V.byt i=V.byt j)=(i.toList == j.toList):=by
 rw[U1]
 cases i
 cases j
 simp
section
variable{X:Cx}{a b c:Expr}{ta tb tc:TE}{pos:Pos}
theorem jci{pins:List (Addr×Obj)}{σ:St}{H:Hp}{s:Shared}{Q:VK}{k k':Bool}(I:Inv X pins σ H s)(q:Q (.bl k) H)(e:k=k'):EP X pins σ Q (.bool k') s:=by
 subst e
 exact⟨.bl k,H,I,rfl,q⟩
theorem jbp:OpR X (compareOp .Eq) rEq:=by
 intro pins s σ H x y v u Q I rx ry h
 obtain⟨hs,q⟩:=h
 cases x with
 |non =>
  cases rx
  cases y with
  |non=>cases ry;exact PySem.EqNone.eq_none_none (jci I q (by simp))
  |bl j=>cases ry;exact PySem.EqNone.eq_none_bool (jci I q (by simp))
  |int j=>obtain⟨t',rfl⟩:=ry;exact PySem.EqNone.eq_none_int (jci I q (by simp))
  |str j=>obtain⟨t',rfl⟩:=ry;exact PySem.EqNone.eq_none_str (jci I q (by simp))
  |_=>exact absurd (show false=true from hs) A4
 |bl i =>
  cases rx
  cases y with
  |non=>cases ry;exact PySem.EqNone.eq_bool_none (jci I q (by simp))
  |bl j=>cases ry;exact eq_bool (jci I q jl7)
  |str j=>obtain⟨t',rfl⟩:=ry;exact PySem.EqMixed.eq_bool_str (jci I q (by simp))
  |_=>exact absurd (show false=true from hs) A4
 |int i =>
  obtain⟨t,rfl⟩:=rx
  cases y with
  |non=>cases ry;exact PySem.EqNone.eq_int_none (jci I q (by simp))
  |int j=>obtain⟨t',rfl⟩:=ry;exact eq_int (jci I q jj3)
  |str j=>obtain⟨t',rfl⟩:=ry;exact PySem.EqMixed.eq_int_str (jci I q (by simp))
  |_=>exact absurd (show false=true from hs) A4
 |str i =>
  obtain⟨t,rfl⟩:=rx
  cases y with
  |non=>cases ry;exact PySem.EqNone.eq_str_none (jci I q (by simp))
  |bl j=>cases ry;exact PySem.EqMixed.eq_str_bool (jci I q (by simp))
  |int j=>obtain⟨t',rfl⟩:=ry;exact PySem.EqMixed.eq_str_int (jci I q (by simp))
  |str j=>obtain⟨t',rfl⟩:=ry;exact eq_str (jci I q jj4)
  |_=>exact absurd (show false=true from hs) A4
 |byt i =>
  obtain⟨t,rfl⟩:=rx
  cases y with
  |byt j=>obtain⟨t',rfl⟩:=ry;exact PySem.W.eq_bytes (jci I q jj2)
  |_=>exact absurd (show false=true from hs) A4
 |_=>cases y <;> exact absurd (show false=true from hs) A4
theorem jbq:OpR X (compareOp .NotEq) rNe:=by
 intro pins s σ H x y v u Q I rx ry h
 obtain⟨hs,q⟩:=h
 cases x with
 |non =>
  cases rx
  cases y with
  |non=>cases ry;exact PySem.EqNone.ne_none_none (jci I q (by simp))
  |bl j=>cases ry;exact PySem.EqNone.ne_none_bool (jci I q (by simp))
  |int j=>obtain⟨t',rfl⟩:=ry;exact PySem.EqNone.ne_none_int (jci I q (by simp))
  |str j=>obtain⟨t',rfl⟩:=ry;exact PySem.EqNone.ne_none_str (jci I q (by simp))
  |_=>exact absurd (show false=true from hs) A4
 |bl i =>
  cases rx
  cases y with
  |non=>cases ry;exact PySem.EqNone.ne_bool_none (jci I q (by simp))
  |bl j=>cases ry;exact ne_bool (jci I q (Ob not jl7))
  |str j=>obtain⟨t',rfl⟩:=ry;exact PySem.EqMixed.ne_bool_str (jci I q (by simp))
  |_=>exact absurd (show false=true from hs) A4
 |int i =>
  obtain⟨t,rfl⟩:=rx
  cases y with
  |non=>cases ry;exact PySem.EqNone.ne_int_none (jci I q (by simp))
  |int j=>obtain⟨t',rfl⟩:=ry;exact ne_int (jci I q (Ob not jj3))
  |str j=>obtain⟨t',rfl⟩:=ry;exact PySem.EqMixed.ne_int_str (jci I q (by simp))
  |_=>exact absurd (show false=true from hs) A4
 |str i =>
  obtain⟨t,rfl⟩:=rx
  cases y with
  |non=>cases ry;exact PySem.EqNone.ne_str_none (jci I q (by simp))
  |bl j=>cases ry;exact PySem.EqMixed.ne_str_bool (jci I q (by simp))
  |int j=>obtain⟨t',rfl⟩:=ry;exact PySem.EqMixed.ne_str_int (jci I q (by simp))
  |str j=>obtain⟨t',rfl⟩:=ry;exact ne_str (jci I q (Ob not jj4))
  |_=>exact absurd (show false=true from hs) A4
 |byt i =>
  obtain⟨t,rfl⟩:=rx
  cases y with
  |byt j=>obtain⟨t',rfl⟩:=ry;exact PySem.W.ne_bytes (jci I q (Ob not jj2))
  |_=>exact absurd (show false=true from hs) A4
 |_=>cases y <;> exact absurd (show false=true from hs) A4
theorem op_lt:OpR X (compareOp .Lt) (rI0 λi j=>.bl (decide (i<j))):=opB0 λ_ _ _ _ _ _ _ q=>lt_int q
theorem ja5:OpR X (compareOp .Gt) (rI0 λi j=>.bl (decide (j<i))):=opB0 λ_ _ _ _ _ _ _ q=>gt_int q
theorem op_ge:OpR X (compareOp .GtE) (rI0 λi j=>.bl (decide (j<=i))):=opB0 λ_ _ _ _ _ _ _ q=>ge_int q
theorem op_lt_str:OpR X (compareOp .Lt) (λx y H Q=>∃i j,x=.str i/\y=.str j/\Q (.bl (decide (i.cps.toList<j.cps.toList))) H):=by
 intro pins s σ H x y v u Q I rx ry h
 obtain⟨i,j,rfl,rfl,q⟩:=h
 obtain⟨t,rfl⟩:=rx
 obtain⟨t',rfl⟩:=ry
 exact lt_str (jci I q rfl)
theorem op_in_str:OpR X (compareOp .In) (λx y H Q=>∃i j,x=.str i/\y=.str j/\Q (.bl (!(Builtin.Str.occurrences j i 0 j.length 1).isEmpty)) H):=by
 intro pins s σ H x y v u Q I rx ry h
 obtain⟨i,j,rfl,rfl,q⟩:=h
 obtain⟨t,rfl⟩:=rx
 obtain⟨t',rfl⟩:=ry
 exact in_str (jci I q rfl)
theorem jr(b:Expr){op:CmpOp}(h:op≠.In:=by decide)(h2:op≠.NotIn:=by decide):behindInMarks op b=false:=by
 have e1:(op == CmpOp.In)=false:=by cases op <;> first|rfl|exact absurd rfl h
 have e2:(op == CmpOp.NotIn)=false:=by cases op <;> first|rfl|exact absurd rfl h2
 cases b <;> simp[behindInMarks,e1,e2]
theorem pe_cmpR{op:CmpOp}{r:R2}(ho:OpR X (compareOp op) r)(ha:PE X a ta)(hb:PE X b tb)(hm:behindInMarks op b=false):PE X (.Compare a [op] [b] pos) (tOp r ta tb):=by
 intro pins s σ H Q I h
 exact wpAny_Compare1 (binT ha hb I h λv u s2 x y H2 I2 rx ry q=>ho pins s2 σ H2 x y v u Q I2 rx ry q) hm
def jh9(t:TE):TT:=λσ H Q=>t σ H λx H'=>∃k,x=.bl k/\Q k H'
theorem pt_cmpR{op:CmpOp}{r:R2}(ho:OpR X (compareOp op) r)(ha:PE X a ta)(hb:PE X b tb)(hm:behindInMarks op b=false):PT X (.Compare a [op] [b] pos) (jh9 (tOp r ta tb)):=by
 intro pins s σ H Q I h
 refine wpAny_isTrue_Compare1 (thn (ha pins s σ H _ I h) λv s1 ⟨x,H1,I1,r1,q1⟩=>thn (hb pins s1 σ H1 _ I1 q1) λu s2 ⟨y,H2,I2,r2,q2⟩ =>
  thn (ho pins s2 σ H2 x y v u _ I2 r1 r2 q2) λc s3 ⟨z,H3,I3,r3,k,e,q3⟩=>?_) hm
 subst e
 cases r3
 exact Oi ⟨H3,I3,q3⟩
theorem jd2:(sizeLine:Nat)<2^63:=by rw[W9];decide
theorem op_add_str:OpR X (binaryOp .Add) (λx y H Q=>∃i j,x=.str i/\y=.str j/\i.length+j.length<=sizeLine/\Q (.str (i++j)) H):=by
 intro pins s σ H x y v u Q I rx ry h
 obtain⟨i,j,rfl,rfl,hz,q⟩:=h
 obtain⟨t,rfl⟩:=rx
 obtain⟨t',rfl⟩:=ry
 exact add_str (λt' tk=>⟨.str (i++j),H,I.tok _,⟨_,rfl⟩,q⟩) hz
theorem jc6{x:V}{us:List Value}(r:Vals [x] us):∃u,us=[u]/\RelV x u:=by
 cases r with
 |cons r1 r2=>cases r2;exact⟨_,rfl,r1⟩
theorem jia{x y:V}{us:List Value}(r:Vals [x,y] us):∃u w',us=[u,w']/\RelV x u/\RelV y w':=by
 cases r with
 |cons r1 r2 =>
  cases r2 with
  |cons r3 r4=>cases r4;exact⟨_,_,rfl,r1,r3⟩
theorem jbl:jct X (.type "int") (λxs H Q=>(∃i,xs=[.int i]/\Q (.int i) H)\/∃k,xs=[.bl k]/\Q (.int (if k then 1 else 0)) H):=by
 intro pins s σ H xs us Q I r h
 rcases h with⟨i,rfl,q⟩|⟨k,rfl,q⟩
 ·obtain⟨u,rfl,t,rfl⟩:=jc6 r
  exact call_int_int ⟨.int i,H,I,⟨_,rfl⟩,q⟩
 ·obtain⟨u,rfl,r1⟩:=jc6 r
  cases r1
  exact call_int_bool ⟨.int (if k then 1 else 0),H,I.tok _,⟨_,rfl⟩,q⟩
end
structure ObjM(h:Heap)(x dx C:Addr)(mA:Str->Option Value):Prop where
 obj:h.get? x=some (PySem.W.instObj C dx)
 ns:h.Ns1 dx mA
 ne:dx≠x
theorem jmn{h:Heap}{dx:Addr}{mA:Str->Option Value}(n:h.Ns1 dx mA):∃od,h.get? dx=some od/\∀name,PySem.W.lookIn name od=some (mA name):=by
 obtain⟨o,es,ep,ho,hd,hk,_,hm⟩:=n
 refine⟨o,ho,λname=>?_⟩
 have e:=hm name
 unfold nsFind findBy at e
 rw[<-Array.find?_toList]at e
 unfold PySem.W.lookIn
 rw[hd]
 dsimp only
 split
 ·rename_i y q
  rw[q]at e
  exact Ob some e
 ·rename_i q
  rw[q]at e
  have a:es.toList.any (·.refKey)=false:=by
   rw[List.any_eq_false]
   intro y hy
   obtain⟨z,t,hkey⟩:=hk y (Array.mem_toList_iff.mp hy)
   simp[DictEntry.refKey,hkey]
  have a':¬es.toList.any (·.refKey)=true:=by rw[a];exact A4
  rw[At a']
  exact Ob some e
theorem ObjM.look{h:Heap}{x dx C:Addr}{mA:Str->Option Value}(I:ObjM h x dx C mA):∃od,PySem.W.InstAt h x (PySem.W.instObj C dx) C (some od)/\∀name,PySem.W.lookIn name od=some (mA name) :=
 let⟨od,ho,hl⟩:=jmn I.ns
 ⟨od,⟨I.obj,rfl,rfl,ho⟩,hl⟩
section
variable{prog:Program}{w:World}{A:Around}{E:Value->Shared->Prop}{s:Shared}{K:PySem.W.Frag}{x dx C f:Addr}{mA:Str->Option Value}{name:Str}{v:Value}
theorem joy{expr:Bool}{Q:Value->Shared->Prop}(X:K.In s.heap)(I:ObjM s.heap x dx C mA)(hg:PySem.W.plainGet K C name=true)(hh:PySem.W.hasDictIn K C=true)
  (ha:PySem.W.findIn K (.ref C) name=some none) (hv:mA name=some v) (hv':PySem.W.handedIn v=true) (h:Q v {s with toks:=s.toks+1}) :
  wpAny (model prog w) A (getAttr (.ref x) name expr) Q E s:=by
 obtain⟨od,J,hl⟩:=I.look
 exact PySem.W.get_value X J (Y0 hg).1 (PySem.W.findObj_own hh ha rfl (by rw[hl,hv])) hv' h
theorem jno{pl:Sem Bool}{Q:Value×List Value->Shared->Prop}(X:K.In s.heap)(I:ObjM s.heap x dx C mA)(hg:PySem.W.plainGet K C name=true)
  (hf:PySem.W.findIn K (.ref C) name=some (some (.ref f))) (ht:PySem.W.isFn K (.ref f)=true) (hv:mA name=none) (h:Q (.ref f,[.ref x]) s) :
  wpAny (model prog w) A (getMethod (.ref x) name pl) Q E s:=by
 obtain⟨od,J,hl⟩:=I.look
 exact PySem.W.method_fn X J (Y0 hg).1 (Y0 hg).2 hf (Us.mp ht) (by show(PySem.W.lookIn name od).map (·.isSome)=some false;rw[hl,hv];rfl) h
theorem jo7{ns:List Str}{Q:Unit->Shared->Prop}(X:K.In s.heap)(I:ObjM s.heap x dx C mA)
  (hs:PySem.W.findIn K (.ref C) "__setattr__"=some (some (.builtin "object.__setattr__"))) (hp:PySem.W.plainOver K C=true) (ht:PySem.W.takerIn K C name=some none) (hh:PySem.W.hasDictIn K C=true)
  (hw:PySem.Within mA ns) (hsz:ns.length<=sizeLine)
  (h:∀h',ObjM h' x dx C (λy=>if y=name then some v else mA y)->Heap.SameBut dx s.heap h'->Q () {s with heap:=h',toks:=s.toks+2}) :
  wpAny (model prog w) A (setAttr (.ref x) name v) Q E s:=by
 obtain⟨od,J,hl⟩:=I.look
 refine PySem.W.set_plain X J hs (PySem.W.osa_open (s:={s with toks:=s.toks+1}) (r:=none) X J hp ht λb=>?_)
 obtain⟨cd,hc,hd'⟩:=PySem.W.any_some hh
 have hx:s.heap.get? x=some ⟨.ref C,some dx,.plain,#[]⟩:=I.obj
 refine Aa (Ab (Aa (Aa (wpAny_loadPart hx (Aa (PySem.W.Looks.here (s:={s with toks:=s.toks+1}) (PySem.W.looks_clsIn X hc) ?_))))))
 rw[hd']
 refine Ab (a:=some dx) (Aa (Ab (Aa ?_)))
 refine wpAny_nsSet1 (s:={s with toks:=s.toks+1}) I.ns λh' hn2 hs2=>?_
 obtain⟨oD,esD,epD,hoD,hdD,hcD⟩:=hn2.count (PySem.Within.cons name v hw)
 refine Aa (wpAny_lookBehind hoD (by rw[hdD];exact pastItsLine_dict (Io hcD (by rw[List.length_cons];omega))) ?_)
 exact Ab (h _ ⟨(hs2.2 _ (Up I.ne)).trans I.obj,hn2,I.ne⟩ hs2)
theorem jnw{R:Result->Shared->Prop}{vs:List Value}{kw:List (Str×Value)}(X:K.In s.heap)(hm:PySem.W.makesIn K C=true)
  (hi:PySem.W.findIn K (.ref C) "__init__"=some (some (.ref f))) (hf:PySem.W.typeIn K (.ref f)=some (.type "function"))
  (h:codeAny (model prog w) (A.under (.builtin "type.__call__" ⟨.ref C::vs,kw⟩)) (.call (.ref f) ⟨.ref (s.heap.objs.size+1)::vs,kw⟩) (PySem.W.InitBack (s.heap.objs.size+1) R)
   {s with heap:=(s.heap.push PySem.W.emptyDict).push (PySem.W.instObj C s.heap.objs.size)}) :
  codeAny (model prog w) A (.call (.ref C) ⟨vs,kw⟩) R s:=by
 obtain⟨hh,g,d,t,os⟩:=s
 exact PySem.W.make_core (PySem.W.makes_of X hm) (PySem.W.looks_findIn X hi) (λself=>PySem.W.bind_fn X self hf) (.inl rfl) h
end
def putF(f:Str)(v:V):List (Str×V)->List (Str×V)
 |[]=>[(f,v)]
 |(g,x)::r=>if g=f then(g,v)::r else(g,x)::putF f v r
theorem je5(f g:Str)(v:V):∀fs:List (Str×V),(putF f v fs).lookup g=if g=f then some v else fs.lookup g
 |[]=>by
  show List.lookup g [(f,v)]=_
  by_cases h:g=f
  ·have hb:(g == f)=true:=Us.mpr h
   simp only[List.lookup,hb,Ap h]
  ·have hb:(g == f)=false:=O5.mpr h
   simp only[List.lookup,hb,At h]
 |(k,x)::r=>by
  have ih:=je5 f g v r
  rw[show putF f v ((k,x)::r)=(if k=f then(k,v)::r else(k,x)::putF f v r)from rfl]
  by_cases hk:k=f
  ·rw[Ap hk]
   by_cases h:g=k
   ·have hb:(g == k)=true:=Us.mpr h
    simp only[List.lookup,hb,Ap (h.trans hk)]
   ·have hb:(g == k)=false:=O5.mpr h
    simp only[List.lookup,hb,At (λe:g=f=>h (e.trans hk.symm))]
  ·rw[At hk]
   by_cases h:g=k
   ·have hb:(g == k)=true:=Us.mpr h
    simp only[List.lookup,hb,At (λe:g=f=>hk (h.symm.trans e))]
   ·have hb:(g == k)=false:=O5.mpr h
    simp only[List.lookup,hb]
    exact ih
theorem jei(f:Str)(v:V):∀fs:List (Str×V),f∈(putF f v fs).map (·.1)/\∀g,g∈fs.map (·.1)->g∈(putF f v fs).map (·.1)
 |[]=>⟨by simp[putF],λg h=>by simp at h⟩
 |(k,x)::r=>by
  obtain⟨i1,i2⟩:=jei f v r
  rw[show putF f v ((k,x)::r)=(if k=f then(k,v)::r else(k,x)::putF f v r)from rfl]
  by_cases hk:k=f
  ·rw[Ap hk]
   subst hk
   exact⟨by simp,λg h=>by simpa using h⟩
  ·rw[At hk]
   refine⟨?_,λg h=>?_⟩
   ·rw[A9]
    exact Im _ i1
   ·rw[A9]at h⊢
    rcases Ar.mp h with e|e
    ·exact Ar.mpr (.inl e)
    ·exact Im _ (i2 g e)
theorem je4(f:Str)(v:V):∀fs:List (Str×V),(putF f v fs).length<=fs.length+1
 |[]=>by simp[putF]
 |(k,x)::r=>by
  have ih:=je4 f v r
  rw[show putF f v ((k,x)::r)=(if k=f then(k,v)::r else(k,x)::putF f v r)from rfl]
  by_cases hk:k=f
  ·rw[Ap hk,List.length_cons,List.length_cons];omega
  ·rw[At hk,List.length_cons,List.length_cons];omega
theorem RelO.some_of{v:V}{o:Option Value}(r:RelO (some v) o):∃u,o=some u/\RelV v u:=by
 cases o with
 |none=>exact(show False from r).elim
 |some u=>exact⟨u,rfl,r⟩
theorem RelO.none_of{o:Option Value}(r:RelO none o):o=none:=by
 cases o with
 |none=>rfl
 |some u=>exact(show False from r).elim
theorem jmd{v:V}{u:Value}(r:RelV v u):PySem.W.handedIn u=true:=by
 cases v with
 |non=>cases(show u=Value.none from r);rfl
 |bl b=>cases(show u=Value.bool b from r);rfl
 |int i=>obtain⟨t,e⟩:=(show ∃t,u=Value.int i t from r);cases e;rfl
 |str x=>obtain⟨t,e⟩:=(show ∃t,u=Value.str x t from r);cases e;rfl
 |byt b=>obtain⟨t,e⟩:=(show ∃t,u=Value.bytes b t from r);cases e;rfl
 |flt b=>obtain⟨t,e⟩:=(show ∃t,u=Value.float b t from r);cases e;rfl
 |ref a=>cases(show u=Value.ref a from r);rfl
 |ty n=>cases(show u=Value.type n from r);rfl
section
variable{P:Program}{w:World}{H H':Hp}{h h':Heap}{a C dx:Addr}{fs fs':List (Str×V)}
theorem jes(hok:HOk P w H h)(e:H a=some (.ins C dx fs)):∃mA,ObjM h a dx C mA/\(∀f,RelO (fs.lookup f) (mA f))/\PySem.Within mA (fs.map (·.1))/\fs.length<=1000/\H dx=some (.own a):=by
 obtain⟨d,z,ne,ob,mA,n,r,q⟩:=(show ObjOk P w H h a (.ins C dx fs)from hok a _ e)
 exact⟨mA,⟨ob,n,ne⟩,r,q,z,d⟩
end
structure Cls(K:PySem.W.Frag)(C:Addr):Prop where
 pg:PySem.W.plainGet K C Str.empty=true
 hd:PySem.W.hasDictIn K C=true
 po:PySem.W.plainOver K C=true
 sa:PySem.W.findIn K (.ref C) "__setattr__"=some (some (.builtin "object.__setattr__"))
theorem Cls.get{K:PySem.W.Frag}{C:Addr}(c:Cls K C)(f:Str):PySem.W.plainGet K C f=true:=c.pg
def NoAttr(K:PySem.W.Frag)(C:Addr)(f:Str):Prop:=PySem.W.findIn K (.ref C) f=some none
theorem NoAttr.taker{K:PySem.W.Frag}{C:Addr}{f:Str}(n:NoAttr K C f):PySem.W.takerIn K C f=some none:=by
 unfold PySem.W.takerIn
 rw[show PySem.W.findIn K (.ref C) f=some none from n]
 rfl
structure Meth(K:PySem.W.Frag)(C:Addr)(m:Str)(f:Addr):Prop where
 at_:PySem.W.findIn K (.ref C) m=some (some (.ref f))
 fn:PySem.W.isFn K (.ref f)=true
 kp:PySem.W.keepIn K (.ref f)=true
section
variable{X:Cx}{pins:List (Addr×Obj)}{σ:St}{H:Hp}{s:Shared}{a C dx:Addr}{fs:List (Str×V)}{f:Str}{v:V}{A:Around}{E:Value->Shared->Prop}
theorem jk3{b:Bool}{Q:Value->Shared->Prop}(I:Inv X pins σ H s)(e:H a=some (.ins C dx fs))(c:Cls X.K C)(n:NoAttr X.K C f)(l:fs.lookup f=some v)
  (h:∀u s',Inv X pins σ H s'->RelV v u->Q u s'):wpAny (model X.prog X.w) A (getAttr (.ref a) f b) Q E s:=by
 obtain⟨mA,O,r,_,_,_⟩:=jes I.hok e
 obtain⟨u,hu,ru⟩:=RelO.some_of (v:=v) (o:=mA f) (by rw[<-l];exact r f)
 exact joy I.kIn O (c.get f) c.hd n hu (jmd ru) (h u _ (I.tok _) ru)
theorem jk4{m:Str}{g:Addr}{pl:Sem Bool}{Q:Value×List Value->Shared->Prop}(I:Inv X pins σ H s)(e:H a=some (.ins C dx fs))(c:Cls X.K C)(k:Meth X.K C m g)(l:fs.lookup m=none)
  (h:Q (.ref g,[.ref a]) s):wpAny (model X.prog X.w) A (getMethod (.ref a) m pl) Q E s:=by
 obtain⟨mA,O,r,_,_,_⟩:=jes I.hok e
 have hn:mA m=none:=RelO.none_of (by rw[<-l];exact r m)
 exact jno I.kIn O (c.get m) k.at_ k.fn hn h
theorem jlj{y:V}{u:Value}{Q:Unit->Shared->Prop}(I:Inv X pins σ H s)(e:H a=some (.ins C dx fs))(c:Cls X.K C)(n:NoAttr X.K C f)(hl:fs.length<1000)(ry:RelV y u)
  (h:∀s',Inv X pins σ (upd H a (.ins C dx (putF f y fs))) s'->Q () s'):wpAny (model X.prog X.w) A (setAttr (.ref a) f u) Q E s:=by
 obtain⟨mA,O,r,wi,_,ho⟩:=jes I.hok e
 have hz:(fs.map (·.1)).length<=sizeLine:=by rw[Ad,W9];omega
 refine jo7 I.kIn O c.sa c.po n.taker c.hd wi hz λh' O' sb=>h _ ?_
 have hd:∃o,h'.get? dx=some o:=let⟨o,_,_,e',_⟩:=O'.ns;⟨o,e'⟩
 refine I.write (x:=a) (e:=dx) (by rw[e];exact True.intro) (.inr ho) (λb q hb z=>(sb.2 b hb).trans z) hd ?_
 refine⟨by rw[jd O.ne];exact ho,?_,O.ne,O'.obj,_,O'.ns,λg=>?_,λg hg=>?_⟩
 ·have:=je4 f y fs;omega
 ·show RelO ((putF f y fs).lookup g) (if g=f then some u else mA g)
  rw[je5]
  by_cases q:g=f
  ·rw[Ap q,Ap q];exact ry
  ·rw[At q,At q];exact r g
 ·by_cases q:g=f
  ·rw[q];exact(jei f y fs).1
  ·refine(jei f y fs).2 g (wi g λz=>hg ?_)
   show(if g=f then some u else mA g)=none
   rw[At q];exact z
theorem Inv.made(I:Inv X pins σ H s):Inv X pins σ (upd (upd H s.heap.objs.size (.own (s.heap.objs.size+1))) (s.heap.objs.size+1) (.ins C s.heap.objs.size []))
  {s with heap:=(s.heap.push PySem.W.emptyDict).push (PySem.W.instObj C s.heap.objs.size)}:=by
 have e1:(s.heap.push PySem.W.emptyDict).get? s.heap.objs.size=some PySem.W.emptyDict:=Ai s.heap rfl
 have e2:((s.heap.push PySem.W.emptyDict).push (PySem.W.instObj C s.heap.objs.size)).get? (s.heap.objs.size+1)=some (PySem.W.instObj C s.heap.objs.size):=by
  have:=Ai (s.heap.push PySem.W.emptyDict) (o:=PySem.W.instObj C s.heap.objs.size) rfl
  rwa[Az]at this
 have e3:(s.heap.push PySem.W.emptyDict).Ns s.heap.objs.size (λ_=>none):=⟨PySem.W.emptyDict,#[],_,e1,rfl,(λe he=>absurd he (by simp)),λ_=>rfl⟩
 have I1:=I.laid (a:=s.heap.objs.size) (o:=.own (s.heap.objs.size+1)) (h':=s.heap.push PySem.W.emptyDict) (t':=s.toks) (λb u q=>Ac _ q) (Af _) ⟨_,e1⟩
 refine I1.laid (a:=s.heap.objs.size+1) (o:=.ins C s.heap.objs.size []) (t':=s.toks) (λb u q=>Ac _ q) (Nat.le_of_eq (Az _ _)) ?_
 have ne:s.heap.objs.size≠s.heap.objs.size+1:=Ao (Og _)
 refine⟨by rw[jd ne,jb],Ou _,ne,e2,λ_=>none,(Heap.Ns1.of_empty e3).at λo q=>Ac _ q,λ_=>True.intro,λy hy=>absurd rfl hy⟩
theorem joq{prog:Program}{w:World}{env:Env}{e:Expr}{f:Str}{pos:Pos}{s:Shared}{Q:Value->Shared->Prop}(hb:attributeBase e f env (eval e env)=eval e env)
  (h:wpAny (model prog w) A (eval e env) (λo s₁=>wpAny (model prog w) A (getAttr o f true) Q E s₁) E s):wpAny (model prog w) A (eval (.Attribute e f pos) env) Q E s :=
 Attribute_any_ h (by rw[arm_eval_Attribute,hb])
end
def tFld(K:PySem.W.Frag)(ta:TE)(f:Str):TE:=λσ H Q=>ta σ H λx H1=>∃a C dx fs v,x=.ref a/\H1 a=some (.ins C dx fs)/\Cls K C/\NoAttr K C f/\fs.lookup f=some v/\Q v H1
def sFld(K:PySem.W.Frag)(ta tv:TE)(f:Str):TS:=λD σ H=>tv σ H λy H1=>ta σ H1 λx H2=>∃a C dx fs,x=.ref a/\H2 a=some (.ins C dx fs)/\Cls K C/\NoAttr K C f/\fs.length<1000 /\
 D.nx σ (upd H2 a (.ins C dx (putF f y fs)))
section
variable{X:Cx}{o e value:Expr}{f:Str}{pos pos' tpos:Pos}{ta tv:TE}
theorem pe_fld(he:PE X e ta)(hb:attributeBase e f X.env (eval e X.env)=eval e X.env):PE X (.Attribute e f pos) (tFld X.K ta f):=by
 intro pins s σ H Q I h
 refine joq hb (thn (he pins s σ H _ I h) λu s1 ⟨x,H1,I1,rx,a,C,dx,fs,v,ex,ea,c,n,l,q⟩=>?_)
 subst ex
 obtain rfl:u=Value.ref a:=rx
 exact jk3 I1 ea c n l λu' s2 I2 ru=>⟨v,H1,I2,ru,q⟩
theorem ps_fld(ha:PE X o ta)(hv:PE X value tv)(hs:swapsWith value (some (.Attribute o f pos')) pos.line X.env=pure false):PS X (.Assign [.Attribute o f pos'] value pos) (sFld X.K ta tv f):=by
 intro pins s σ H D I h
 refine plainObj_wpAny_Assign_Attribute (thn (hv pins s σ H _ I h) λu s1 ⟨y,H1,I1,ry,q⟩=>thn (ha pins s1 σ H1 _ I1 q) λov s2 ⟨x,H2,I2,rx,a,C,dx,fs,ex,ea,c,n,l,q2⟩=>?_) hs
 subst ex
 obtain rfl:ov=Value.ref a:=rx
 exact jlj I2 ea c n l ry λs3 I3=>⟨σ,_,I3,q2⟩
end
section
variable{X:Cx}{pins:List (Addr×Obj)}{σ:St}{H:Hp}{s:Shared}{A:Around}{E:Value->Shared->Prop}{Q:Value->Shared->Prop}{c:Value}{b:Bool}
inductive TyOf (K:PySem.W.Frag) (H:Hp):V->Value->Prop where
 |non:TyOf K H .non (.type "NoneType")
 |bl (x:Bool):TyOf K H (.bl x) (.type "bool")
 |int (i:Int):TyOf K H (.int i) (.type "int")
 |str (x:Str):TyOf K H (.str x) (.type "str")
 |flt (x:UInt64):TyOf K H (.flt x) (.type "float")
 |lst {a:Addr}{xs:List V} (e:H a=some (.lst xs)):TyOf K H (.ref a) (.type "list")
 |frz {a:Addr}{o:Obj}{xs:List V} (e:H a=some (.frz o (.lst xs))):TyOf K H (.ref a) (.type "list")
 |tup {a:Addr}{xs:List V} (e:H a=some (.tup xs)):TyOf K H (.ref a) (.type "tuple")
 |dK {a:Addr}{kvs:List (Key×V)} (e:H a=some (.dK kvs)):TyOf K H (.ref a) (.type "dict")
 |dT {a:Addr}{kvs:List (List Key×V)} (e:H a=some (.dT kvs)):TyOf K H (.ref a) (.type "dict")
 |ins {a C dx:Addr}{fs:List (Str×V)} (e:H a=some (.ins C dx fs)) (cl:Cls K C) (ha:PySem.W.findIn K (.ref C) "__class__"=some (some (.builtin "object.__class__")))
   (hn:PySem.W.specialIn K (.builtin "object.__class__") "__get__"=some (some (.builtin "getset_descriptor.__get__"))) (htk:PySem.W.takesIn K (.builtin "object.__class__")=some true)
   (hm:PySem.W.mroIn K C (.type "object")=some true):TyOf K H (.ref a) (.ref C)
theorem jmh{x:V}{u t:Value}(I:Inv X pins σ H s)(rx:RelV x u)(ty:TyOf X.K H x t)(e:PySem.W.kitOne X.K t c=some b)(h:∀tk,Q (.bool b) {s with toks:=tk}) :
  wpAny (model X.prog X.w) A (call (.builtin "isinstance") [u,c]) Q E s:=by
 cases ty with
 |non=>cases(show u=Value.none from rx);exact Oy PySem.W.kitx_none I.kIn True.intro e (λz=>nomatch z) h
 |bl y=>cases(show u=Value.bool y from rx);exact Oy PySem.W.kitx_bool I.kIn True.intro e (λz=>nomatch z) h
 |int i=>obtain⟨t,q⟩:=(show ∃t,u=Value.int i t from rx);cases q;exact Oy PySem.W.kitx_int I.kIn True.intro e (λz=>nomatch z) h
 |str y=>obtain⟨t,q⟩:=(show ∃t,u=Value.str y t from rx);cases q;exact Oy PySem.W.kitx_str I.kIn True.intro e (λz=>nomatch z) h
 |flt y=>obtain⟨t,q⟩:=(show ∃t,u=Value.float y t from rx);cases q;exact Oy PySem.W.kitx_float I.kIn True.intro e (λz=>nomatch z) h
 |@lst a xs ea =>
  cases(show u=Value.ref a from rx)
  obtain⟨_,_,n,_,h1⟩:=(show ObjOk X.prog X.w H s.heap a (.lst xs)from I.hok a _ ea)
  exact Oy PySem.W.kitx_list I.kIn ⟨_,h1,rfl⟩ e (λz=>nomatch z) h
 |@frz a ob xs ea =>
  cases(show u=Value.ref a from rx)
  obtain⟨_,_,_,n,_,h1⟩:=(show ObjOk X.prog X.w H s.heap a (.frz ob (.lst xs))from I.hok a _ ea)
  exact Oy PySem.W.kitx_list I.kIn ⟨_,h1,rfl⟩ e (λz=>nomatch z) h
 |@tup a xs ea =>
  cases(show u=Value.ref a from rx)
  obtain⟨_,_,_,p⟩:=(show ObjOk X.prog X.w H s.heap a (.tup xs)from I.hok a _ ea)
  obtain⟨o,h1,h2,_⟩:=p
  exact Oy PySem.W.kitx_tuple I.kIn ⟨o,h1,h2⟩ e (λz=>nomatch z) h
 |@dK a kvs ea =>
  cases(show u=Value.ref a from rx)
  obtain⟨_,_,vs,_,p⟩:=(show ObjOk X.prog X.w H s.heap a (.dK kvs)from I.hok a _ ea)
  obtain⟨o,es,ep,h1,h2,_⟩:=p
  exact Oy PySem.W.kitx_dict I.kIn ⟨o,h1,h2.1⟩ e (λz=>nomatch z) h
 |@dT a kvs ea =>
  cases(show u=Value.ref a from rx)
  obtain⟨_,_,xs,_,o,es,ep,h1,h2,_⟩:=(show ObjOk X.prog X.w H s.heap a (.dT kvs)from I.hok a _ ea)
  exact Oy PySem.W.kitx_dict I.kIn ⟨o,h1,h2.1⟩ e (λz=>nomatch z) h
 |@ins a C dx fs ea cl ha hn htk hm =>
  cases(show u=Value.ref a from rx)
  obtain⟨mA,O,_⟩:=jes I.hok ea
  obtain⟨od,J,_⟩:=O.look
  exact Oy (PySem.W.kitx_own (cl.get _) cl.hd ha hn htk hm) I.kIn J e (λz=>nomatch z) h
end
structure Room(k:Nat)(A:Around):Prop where
 hd:A.handled=none
 dp:A.depth+3*k+5<recursionLimit
 un:A.units+16*k+200<cLine
 gd:A.guards=some []
theorem Room.mono{j k:Nat}{A:Around}(r:Room k A)(h:j<=k):Room j A:=⟨r.hd,by have:=r.dp;omega,by have:=r.un;omega,r.gd⟩
theorem Room.deeper{k:Nat}{A:Around}(r:Room (k+1) A)(env:Env):Room k (A.deeper env) :=
 ⟨r.hd,by have:=r.dp;show A.depth+1+3*k+5<_;omega,by have:=r.un;show A.units+3+16*k+200<_;omega,r.gd⟩
theorem jk8{A:Around}{C:Addr}{us:List Value}{kw:List (Str×Value)}:(A.under (.builtin "type.__call__" ⟨.ref C::us,kw⟩)).depth=A.depth+1:=by
 first|rfl|simp[Around.under,Code.weight,Code.isCreation,Code.isGuard,Code.isCaller,Code.frames,Code.isFrame,guardIds]
theorem jk9{A:Around}{C:Addr}{us:List Value}{kw:List (Str×Value)}:(A.under (.builtin "type.__call__" ⟨.ref C::us,kw⟩)).units=A.units+1:=by
 first|rfl|simp[Around.under,Code.cUnits,Code.frames,Code.isFrame]
theorem Room.make{k:Nat}{A:Around}(r:Room (k+1) A)(C:Addr)(us:List Value)(kw:List (Str×Value)):Room k (A.under (.builtin "type.__call__" ⟨.ref C::us,kw⟩)) :=
 ⟨r.hd,by have:=r.dp;rw[jk8];omega,by have:=r.un;rw[jk9];omega,by first|exact r.gd|(simpa[Around.under,Code.isGuard,guardIds]using r.gd)⟩
theorem Room.depth{k:Nat}{A:Around}(r:Room k A):A.depth<recursionLimit:=by have:=r.dp;omega
theorem Room.units{k:Nat}{A:Around}(r:Room k A):A.units+64<cLine:=by have:=r.un;omega
def tNil:TA:=λ_ H Q=>Q [] H
def jev(ta:TE)(tr:TA):TA:=λσ H Q=>ta σ H λx H1=>tr σ H1 λxs H2=>Q (x::xs) H2
section
variable{X:Cx}{e:Expr}{es:List Expr}{te:TE}{t:TA}{pos:Pos}
theorem jce:PA X [] tNil:=λ_ _ _ _ H Q I h=>Calls.spliced_nil ⟨[],H,I,.nil,h⟩
theorem jb4(ha:PE X e te)(hr:PA X es t)(hs:starEach (e::es) X.env=(false,eval e X.env)::starEach es X.env:=by rfl):PA X (e::es) (jev te t):=by
 intro pos pins s σ H Q I h
 rw[hs]
 show wpAny _ _ (spliced ((false,eval e X.env)::backTo pos (starEach es X.env))) _ _ s
 refine Y2 (thn (ha pins s σ H _ I h) λu s1 ⟨x,H1,I1,r1,q1⟩=>?_)
 exact thn (hr pos pins s1 σ H1 _ I1 q1) λus s2 ⟨xs,H2,I2,r2,q2⟩=>⟨x::xs,H2,I2,.cons r1 r2,q2⟩
def tTup(t:TA):TE:=λσ H Q=>t σ H λxs H1=>xs.length<=sizeLine/\∀p,H1 p=none->Q (.ref p) (upd H1 p (.tup xs))
def tLst(t:TA):TE:=λσ H Q=>t σ H λxs H1=>xs.length<=sizeLine/\∀p,H1 p=none->Q (.ref p) (upd H1 p (.lst xs))
theorem pe_tup{x1}(h:PA X es t):PE X (.Tuple es x1 pos) (tTup t):=by
 intro pins s σ H Q I hq
 refine wpAny_Tuple_spliced (thn (h pos pins s σ H _ I hq) λus s1 ⟨xs,H1,I1,r,z,q⟩=>⟨by rw[<-r.length];exact z,?_⟩)
 have hf:H1 s1.heap.objs.size=none:=I1.hok.fresh (Af _)
 refine⟨.ref s1.heap.objs.size,upd H1 s1.heap.objs.size (.tup xs),I1.laid (t':=s1.toks) (λb u e=>Ac _ e) (Af _) ?_,rfl,q _ hf⟩
 exact⟨z,us,r,⟨_,Ai _ rfl,rfl,_,rfl⟩⟩
theorem pe_lst(h:PA X es t):PE X (.List es pos) (tLst t):=by
 intro pins s σ H Q I hq
 refine wpAny_List_spliced (thn (h pos pins s σ H _ I hq) λus s1 ⟨xs,H1,I1,r,z,q⟩=>⟨by rw[<-r.length];exact z,?_⟩)
 have hf:H1 s1.heap.objs.size=none:=I1.hok.fresh (Af _)
 refine⟨.ref s1.heap.objs.size,upd H1 s1.heap.objs.size (.lst xs),I1.laid (t':=s1.toks) (λb u e=>Ac _ e) (Af _) ?_,rfl,q _ hf⟩
 exact⟨z,us,0,r,Ai _ rfl⟩
end
abbrev Sp:=List V->Hp->VK->XK->Prop
abbrev CXT:=List Env->Hp->Shared->XK->Value->Shared->Prop
structure Env0(P:Program)(w:World)(K:PySem.W.Frag)(mg:Str->Option Value)(base:Heap)(A:Around)(outer:List Env)(s:Shared)(H:Hp):Prop where
 frames:A.frames=some outer
 mod:Mod K mg base
 bs:∀b o,base.get? b=some o->s.heap.get? b=some o/\H b=none
 bsz:base.objs.size<=s.heap.objs.size
 funs:s.heap.FunFrames base outer
 frf:∀b∈frs outer,H b=none
 hok:HOk P w H s.heap
 bare:AllBare s.gens
def CE(outer:List Env)(P:Program)(w:World)(H:Hp)(s:Shared)(Q:VK)(u:Value)(s':Shared):Prop :=
 ∃v H',s'.os=s.os/\AllBare s'.gens/\Un (frs outer) [] H H' s.heap s'.heap/\HOk P w H' s'.heap/\RelV v u/\Q v H'
def CR(CX:CXT)(outer:List Env)(P:Program)(w:World)(H:Hp)(s:Shared)(Q:VK)(E:XK)(r:Result)(s':Shared):Prop :=
 match r with
 |.ok (.ret u)=>CE outer P w H s Q u s'
 |.ok _=>False
 |.error e=>CX outer H s E e s'
structure FnOk(P:Program)(w:World)(K:PySem.W.Frag)(mg:Str->Option Value)(base:Heap)(CX:CXT)(k:Nat)(f:Addr)(fd:FuncData)(ps:List Str)(sp:Sp):Prop where
 len:∀vs H Q E,sp vs H Q E->vs.length=ps.length
 run:∀(A:Around)(outer:List Env)(s:Shared)(H:Hp)(args:Args)(us:List Value)(vs:List V)(Q:VK)(E:XK),Room k A->Env0 P w K mg base A outer s H->BindsTo s fd args (ps.zip us)->Vals vs us->sp vs H Q E ->
  codeAny (model P w) A (.call (.ref f) args) (CR CX outer P w H s Q E) s
theorem Env0.make{P:Program}{w:World}{K:PySem.W.Frag}{mg:Str->Option Value}{base:Heap}{A:Around}{outer:List Env}{s:Shared}{H:Hp}(e:Env0 P w K mg base A outer s H)(C:Addr)(us:List Value)(kw:List (Str×Value)) :
  Env0 P w K mg base (A.under (.builtin "type.__call__" ⟨.ref C::us,kw⟩)) outer s H:=⟨by first|exact e.frames|(simpa[Around.under,Code.envs,Code.isFrame,pushEnvs]using e.frames),e.mod,e.bs,e.bsz,e.funs,e.frf,e.hok,e.bare⟩
section
variable{X:Cx}{pins:List (Addr×Obj)}{σ:St}{H:Hp}{s s':Shared}
theorem Inv.env0(I:Inv X pins σ H s):Env0 X.prog X.w X.K X.mg X.base X.A X.stack s H :=
 ⟨I.ok.frames,I.ok.mod,I.bs,Io I.ok.bsz I.sz,I.stack,I.stkFree,I.hok,I.bare⟩
theorem Inv.after{Q:VK}{u:Value}(I:Inv X pins σ H s)(h:CE X.stack X.prog X.w H s Q u s'):EP X pins σ Q u s':=by
 obtain⟨v,H',os,bare,un,hok,r,q⟩:=h
 obtain⟨hh,g,d,t,os'⟩:=s'
 obtain rfl:os'=s.os:=os
 exact⟨v,H',I.call (h':=hh) (g':=g) (d':=d) (t':=t) (ch:=[]) un hok bare (λb z=>absurd z (by simp)),r,q⟩
end
def jh1(sp:Sp)(dvs:List V)(E:XK)(t:TA):TE:=λσ H Q=>t σ H λvs H1=>sp (vs++dvs) H1 Q E
def jh5(C:Addr)(m:Str)(sp:Sp)(dvs:List V)(E:XK)(ta:TE)(t:TA):TE:=λσ H Q=>ta σ H λx H1=>∃a dx fs,x=.ref a/\H1 a=some (.ins C dx fs)/\fs.lookup m=none /\
 t σ H1 λvs H2=>sp (x::(vs++dvs)) H2 Q E
def jh4(C:Addr)(sp:Sp)(dvs:List V)(E:XK)(t:TA):TE:=λσ H Q=>t σ H λvs H1=>∀x dx,H1 x=none->H1 dx=none->dx≠x ->
 sp (.ref x::(vs++dvs)) (upd (upd H1 dx (.own x)) x (.ins C dx [])) (λv H2=>v=.non/\Q (.ref x) H2) E
def Binds(K:PySem.W.Frag)(fd:FuncData)(ps:List Str)(ds:List Value):Prop :=
 ∀(s:Shared)(us:List Value),K.In s.heap->(us++ds).length=ps.length->BindsTo s fd ⟨us,[]⟩ (ps.zip (us++ds))
theorem Binds.all{K:PySem.W.Frag}{fd:FuncData}{ps:List Str}(h:∀us:List Value,us.length=ps.length->bindArgs fd ⟨us,[]⟩=pure (ps.zip us)):Binds K fd ps []:=λs us _ hl=>by
 rw[Ug]at hl⊢
 exact .of_eq (h us hl)
def jdc(CX:CXT)(X:Cx)(E:XK):Prop:=∀(pins:List (Addr×Obj))(σ:St)(H:Hp)(s:Shared)(e:Value)(s':Shared),Inv X pins σ H s->CX X.stack H s E e s'->X.xe e s'
section
variable{X:Cx}{CX:CXT}{k:Nat}{f C:Addr}{fd:FuncData}{ps:List Str}{sp:Sp}{dvs:List V}{ds:List Value}{E:XK}{x m:Str}{p pos apos:Pos}{e o:Expr}{es:List Expr}{ta:TE}{t:TA}
theorem jmv{pins:List (Addr×Obj)}{σ:St}{H:Hp}{s:Shared}{Q:VK}{us:List Value}{vs:List V}(F:FnOk X.prog X.w X.K X.mg X.base CX k f fd ps sp)(hr:Room k X.A)(hb:Binds X.K fd ps ds)(hd:Vals dvs ds)(hx:jdc CX X E)
  (I:Inv X pins σ H s) (r:Vals vs us) (h:sp (vs++dvs) H Q E):wpAny (model X.prog X.w) X.A (call (.ref f) us) (EP X pins σ Q) X.xe s:=by
 have r2:Vals (vs++dvs) (us++ds):=r.append hd
 have hl:(us++ds).length=ps.length:=by rw[<-r2.length];exact F.len _ _ _ _ h
 refine wpAny_call (Wk (F.run X.A X.stack s H ⟨us,[]⟩ (us++ds) (vs++dvs) Q E hr I.env0 (hb s us I.kIn hl) r2 h) λr s' hq=>?_)
 cases r with
 |error e=>exact hx pins σ H s e s' I hq
 |ok fl =>
  cases fl with
  |ret u=>exact I.after hq
  |next=>exact False.elim hq
  |brk=>exact False.elim hq
  |cont=>exact False.elim hq
theorem pe_call(F:FnOk X.prog X.w X.K X.mg X.base CX k f fd ps sp)(hr:Room k X.A)(hg:Gl X x)(hm:X.mg x=some (.ref f))(hk:PySem.W.keepIn X.K (.ref f)=true)(hb:Binds X.K fd ps ds)(hd:Vals dvs ds)(hx:jdc CX X E)
  (ha:PA X (e::es) t) (hdb:(x == ("__debug__":Str))=false:=by decide) (he:starEach (e::es) X.env=(false,eval e X.env)::starEach es X.env:=by rfl) (hpl:(backTo pos (starEach es X.env)).any (·.1)=false:=by rfl) :
  PE X (.Call (.Name x p) (e::es) [] pos) (jh1 sp dvs E t):=by
 intro pins s σ H Q I h
 refine Uu (jgf I hg hm ?_ hdb)
 refine Y3 (h₀:=X.base) I.ok.mod.kin hk (thn (ha pos pins s σ H _ I h) λus s1 ⟨vs,H1,I1,r,q⟩=>⟨I1.kIn,?_⟩) he hpl
 exact jmv F hr hb hd hx I1 r q
theorem pe_meth{pl:Sem Bool}(he:PE X o ta)(c:Cls X.K C)(hm:Meth X.K C m f)(F:FnOk X.prog X.w X.K X.mg X.base CX k f fd ps sp)(hr:Room k X.A)(hb:Binds X.K fd ps ds)(hd:Vals dvs ds)(hx:jdc CX X E)(ha:PA X (e::es) t)
  (hst:starEach (e::es) X.env=(false,eval e X.env)::starEach es X.env:=by rfl) (hpl:(backTo pos (starEach es X.env)).any (·.1)=false:=by rfl)
  (ht:eval (.Call (.Attribute o m apos) (e::es) [] pos) X.env=(do
   let ov <-eval o X.env
   standAt apos.atName
   let(f,first) <-holding [ov] (getMethod ov m pl)
   callWith pos f first (backTo pos (starEach (e::es) X.env)) (backToKw pos (keywordEach [] X.env))):=by rfl) :
  PE X (.Call (.Attribute o m apos) (e::es) [] pos) (jh5 C m sp dvs E ta t):=by
 intro pins s σ H Q I h
 refine PySem.W.methodCall_KW (pl:=pl) (thn (he pins s σ H _ I h) λu s1 ⟨x,H1,I1,rx,a,dx,fs,ex,ea,l,q⟩=>?_) ht
 subst ex
 obtain rfl:u=Value.ref a:=rx
 refine jk4 I1 ea c hm l ?_
 refine Y3 (first:=[.ref a]) (h₀:=X.base) I.ok.mod.kin hm.kp (thn (ha pos pins s1 σ H1 _ I1 q) λus s2 ⟨vs,H2,I2,r,q2⟩=>⟨I2.kIn,?_⟩) hst hpl
 exact jmv (us:=.ref a::us) (vs:=.ref a::vs) F hr hb hd hx I2 (.cons rfl r) q2
structure Mk(K:PySem.W.Frag)(C f:Addr):Prop where
 makes:PySem.W.makesIn K C=true
 init:PySem.W.findIn K (.ref C) "__init__"=some (some (.ref f))
 fn:PySem.W.isFn K (.ref f)=true
 kp:PySem.W.keepIn K (.ref C)=true
theorem jn4{pins:List (Addr×Obj)}{σ:St}{H:Hp}{s:Shared}{Q:VK}{us:List Value}{vs:List V}(M:Mk X.K C f)(F:FnOk X.prog X.w X.K X.mg X.base CX k f fd ps sp)(hr:Room (k+1) X.A)(hb:Binds X.K fd ps ds)(hd:Vals dvs ds)
  (hx:jdc CX X E) (I:Inv X pins σ H s) (r:Vals vs us)
  (h:∀x dx,H x=none->H dx=none->dx≠x->sp (.ref x::(vs++dvs)) (upd (upd H dx (.own x)) x (.ins C dx [])) (λv H2=>v=.non/\Q (.ref x) H2) E) :
  wpAny (model X.prog X.w) X.A (call (.ref C) us) (EP X pins σ Q) X.xe s:=by
 have hq:=h (s.heap.objs.size+1) s.heap.objs.size (I.hok.fresh (Wq _)) (I.hok.fresh (Af _)) (Ao (Og _))
 have I2:=Inv.made (C:=C) I
 have r2:Vals (V.ref (s.heap.objs.size+1)::(vs++dvs)) (Value.ref (s.heap.objs.size+1)::(us++ds)):=.cons rfl (r.append hd)
 have hl:(Value.ref (s.heap.objs.size+1)::us++ds).length=ps.length:=by
  have e:=r2.length
  rw[F.len _ _ _ _ hq]at e
  exact e.symm
 refine wpAny_call (jnw (f:=f) I.kIn M.makes M.init (Us.mp M.fn) (Wk (F.run _ X.stack _ _ ⟨Value.ref (s.heap.objs.size+1)::us,[]⟩ (Value.ref (s.heap.objs.size+1)::(us++ds)) _ _ E (hr.make C us [])
  (I2.env0.make C us []) (hb _ (Value.ref (s.heap.objs.size+1)::us) I2.kIn hl) r2 hq) λr s' hq'=>?_))
 cases r with
 |error e=>exact hx pins σ _ _ e s' I2 hq'
 |ok fl =>
  cases fl with
  |ret u =>
   obtain⟨v,H',I3,rv,ev,q3⟩:=I2.after hq'
   subst ev
   exact⟨rv,⟨V.ref (s.heap.objs.size+1),H',I3,rfl,q3⟩⟩
  |next=>exact False.elim hq'
  |brk=>exact False.elim hq'
  |cont=>exact False.elim hq'
theorem pe_make(M:Mk X.K C f)(F:FnOk X.prog X.w X.K X.mg X.base CX k f fd ps sp)(hr:Room (k+1) X.A)(hg:Gl X x)(hm:X.mg x=some (.ref C))(hb:Binds X.K fd ps ds)(hd:Vals dvs ds)(hx:jdc CX X E)
  (ha:PA X (e::es) t) (hdb:(x == ("__debug__":Str))=false:=by decide) (he:starEach (e::es) X.env=(false,eval e X.env)::starEach es X.env:=by rfl) (hpl:(backTo pos (starEach es X.env)).any (·.1)=false:=by rfl) :
  PE X (.Call (.Name x p) (e::es) [] pos) (jh4 C sp dvs E t):=by
 intro pins s σ H Q I h
 refine Uu (jgf I hg hm ?_ hdb)
 refine Y3 (h₀:=X.base) I.ok.mod.kin M.kp (thn (ha pos pins s σ H _ I h) λus s1 ⟨vs,H1,I1,r,q⟩=>⟨I1.kIn,?_⟩) he hpl
 exact jn4 M F hr hb hd hx I1 r q
end
structure FnScope(N P:List Str)(sc:Scope):Prop where
 kind:sc.kind=.function
 co:sc.isCoroutine=false
 gen:sc.isGenerator=false
 nd:N.Nodup
 pre:N.take P.length=P
 par:∀x∈P,sc.names.lookup x=some .local\/sc.names.lookup x=some .cell
 nofree:∀y∈sc.names,y.2≠.free
theorem jgo{kindOf:Str->Option NameKind}{x:Str}:∀{binds:List (Str×Value)}{m:Str->Option Value},(∀v,(x,v)∉binds)->bindL kindOf binds m x=m x
 |[],_,_=>rfl
 |(n,v)::r,m,h=>by
  unfold bindL
  rw[jgo λw hw=>h w (Im _ hw)]
  split
  ·have:x≠n:=by rintro rfl;exact h v Oa
   simp[this]
  ·rfl
theorem jgm{kindOf:Str->Option NameKind}{x:Str}:∀{binds:List (Str×Value)}{m:Str->Option Value},(∀v,(x,v)∉binds)->bindC kindOf binds m x=m x
 |[],_,_=>rfl
 |(n,v)::r,m,h=>by
  unfold bindC
  rw[jgm λw hw=>h w (Im _ hw)]
  split
  ·rfl
  ·have:x≠n:=by rintro rfl;exact h v Oa
   simp[this]
theorem jgn{kindOf:Str->Option NameKind}{x:Str}{v:Value}:∀{P:List Str}{vs:List Value}{i:Nat}{m:Str->Option Value},P.Nodup->P[i]?=some x->vs[i]?=some v->kindOf x=some .local ->
  bindL kindOf (P.zip vs) m x=some v
 |[],_,_,_,_,h,_,_=>by simp at h
 |_::_,[],_,_,_,_,h,_=>by simp at h
 |p::P,w::vs,0,m,nd,h1,h2,hk=>by
  simp at h1 h2;subst h1;subst h2
  show bindL kindOf ((p,w)::P.zip vs) m p=_
  unfold bindL
  rw[jgo λv hv=>(Uh.mp nd).1 (List.of_mem_zip hv).1,Ap hk]
  simp
 |p::P,w::vs,i+1,m,nd,h1,h2,hk=>by
  show bindL kindOf ((p,w)::P.zip vs) m x=_
  unfold bindL
  exact jgn (i:=i) (Uh.mp nd).2 (by simpa using h1) (by simpa using h2) hk
theorem jgl{kindOf:Str->Option NameKind}{x:Str}{v:Value}:∀{P:List Str}{vs:List Value}{i:Nat}{m:Str->Option Value},P.Nodup->P[i]?=some x->vs[i]?=some v->kindOf x≠some .local ->
  bindC kindOf (P.zip vs) m x=some v
 |[],_,_,_,_,h,_,_=>by simp at h
 |_::_,[],_,_,_,_,h,_=>by simp at h
 |p::P,w::vs,0,m,nd,h1,h2,hk=>by
  simp at h1 h2;subst h1;subst h2
  show bindC kindOf ((p,w)::P.zip vs) m p=_
  unfold bindC
  rw[jgm λv hv=>(Uh.mp nd).1 (List.of_mem_zip hv).1,At hk]
  simp
 |p::P,w::vs,i+1,m,nd,h1,h2,hk=>by
  show bindC kindOf ((p,w)::P.zip vs) m x=_
  unfold bindC
  exact jgl (i:=i) (Uh.mp nd).2 (by simpa using h1) (by simpa using h2) hk
def start(N:List Str)(vs:List V):St:=vs.map some++List.replicate (N.length-vs.length) none
def cxOf(CX:CXT)(P:Program)(w:World)(K:PySem.W.Frag)(mg:Str->Option Value)(base:Heap)(N:List Str)(qual:Str)(scope:Scope)(f:Addr)(cd:Value)(A:Around)(outer:List Env)(s:Shared)(H:Hp)(E:XK):Cx where
 prog:=P
 w:=w
 K:=K
 mg:=mg
 base:=base
 A:=A.deeper (envOfC qual scope s.heap.objs.size f cd)
 N:=N
 s₀:=s
 H₀:=H
 env:=envOfC qual scope s.heap.objs.size f cd
 outer:=outer
 stack:=envOfC qual scope s.heap.objs.size f cd::outer
 ex:=[]
 calm:=true
 fn:=λ_=>true
 pn:=[]
 xe:=λe s'=>wpAny (model P w) (A.deeper (envOfC qual scope s.heap.objs.size f cd)) (leaving (envOfC qual scope s.heap.objs.size f cd) e) (λ_ s''=>CX outer H s E e s'') (λe' s''=>CX outer H s E e' s'') s'
theorem jib{sc:Scope}{n:Nat}{x:Str}(h:sc.names.lookup x=some .cell):∃c,(cellsFrom n sc.names []).lookup x=some c:=by
 have q:=PySem.W.cellsFrom_some sc.names n [] (.inl h)
 exact Um.mp q
theorem jmg{CX:CXT}{P:Program}{w:World}{K:PySem.W.Frag}{mg:Str->Option Value}{base:Heap}{N ps:List Str}{qual:Str}{scope:Scope}{f:Addr}{cd:Value}{A:Around}{outer:List Env}{s s1:Shared}{H:Hp}{E:XK}{us:List Value}{vs:List V}
  (S:FnScope N ps scope) (hd:A.handled=none) (e0:Env0 P w K mg base A outer s H) (hl:vs.length=ps.length) (r:Vals vs us)
  (x:InCallC s s.heap.objs.size (bindL (envOfC qual scope s.heap.objs.size f cd).kindOf (ps.zip us) λ_=>none) (cellsFrom (s.heap.objs.size+1) scope.names []) (bindC (envOfC qual scope s.heap.objs.size f cd).kindOf (ps.zip us) λ_=>none) s1) :
  Inv (cxOf CX P w K mg base N qual scope f cd A outer s H E) [] (start N vs) H s1:=by
 have hpl:ps.length<=N.length:=by have:=Ob List.length S.pre;rw[A5]at this;omega
 obtain⟨h1,tk,rfl,hk⟩:=x.done
 have noA:∀b:Addr,b∉(cxOf CX P w K mg base N qual scope f cd A outer s H E).ex:=λb z=>absurd (show b∈([]:List Addr)from z) (by simp)
 refine⟨⟨e0.mod,S.kind,rfl,rfl,Af _,λy z c h1 h2=>?_,λy hy=>?_,λy c _ h=>?_,λ_=>hd,Around.frames_deeper e0.frames,.inr ⟨rfl,rfl⟩,λb z=>absurd z (noA b),e0.bs,e0.bsz,λb _ _=>noA b,λb z=>absurd z (noA b),e0.funs,e0.frf⟩,
  rfl,e0.bare,Un.kept hk,⟨_,x.toInCall.ns,λi y v h1 h2 h3=>?_⟩,λy c h=>⟨_,x.cell y c h⟩,e0.hok.fresh (Af _),λy c h=>?_,λp hp=>absurd (show p∈([]:List (Addr×Obj))from hp) (by simp),e0.hok.kept hk,?_⟩
 ·exact name_of_addr x.apart (Wd h1) (Wd h2)
 ·have hy:scope.names.lookup y=some .cell\/scope.names.lookup y=some .free:=hy
  rcases hy with hy|hy
  ·exact jib hy
  ·exact absurd rfl (S.nofree _ (Wd hy))
 ·exact Wt (x.above y c (Wd h))
 ·have hi:i<vs.length:=by
   unfold start at h2
   by_cases hi:i<vs.length
   ·exact hi
   ·rw[O1 (by simpa using hi)]at h2
    rw[List.getElem?_replicate]at h2
    split at h2 <;> cases h2
  have ha:vs[i]?=some v:=by
   unfold start at h2
   rw[Oj (by simpa using hi),Ax]at h2
   cases e:vs[i]? with
   |none=>rw[e]at h2;cases h2
   |some a=>rw[e]at h2;cases h2;rfl
  obtain⟨u,hu,rv⟩:=r.get ha
  have hp:ps[i]?=some y:=by
   rw[<-S.pre,List.getElem?_take_of_lt (by omega)];exact h1
  have ndP:ps.Nodup:=by rw[<-S.pre];exact S.nd.sublist (List.take_sublist _ _)
  refine⟨u,rv,?_⟩
  rcases S.par y (A6 hp)with k|k
  ·exact .inl ⟨k,jgn ndP hp hu k⟩
  ·obtain⟨c,e⟩:=jib (n:=s.heap.objs.size+1) k
   refine .inr ⟨.inl k,c,e,?_⟩
   have q:=x.cell y c e
   rw[jgl ndP hp hu (by show scope.names.lookup y≠_;rw[k];decide)]at q
   exact q
 ·exact e0.hok.fresh (Wt (x.above y c (Wd h)))
 ·unfold start
  show _=N.length
  rw[Aw,Ad,List.length_replicate]
  omega
theorem jqf{CX:CXT}{P:Program}{w:World}{K:PySem.W.Frag}{mg:Str->Option Value}{base:Heap}{k:Nat}{f:Addr}{name qual:Str}{params:Arguments}{body:List Stmt}{scope:Scope}{dV kV doc pm cdv ct oc:Value}{an od:Option Addr}
  {osl:Array (Option Value)}{N ps:List Str}{sp:Sp} (lk:K.lookup f=some ⟨oc,od,.func (PySem.W.fnOf name qual params body scope dV kV doc pm an cdv ct),osl⟩) (hcd:PySem.W.codeIn K cdv qual=true) (S:FnScope N ps scope)
  (len:∀vs H Q E,sp vs H Q E->vs.length=ps.length)
  (hbody:∀(A:Around)(outer:List Env)(s:Shared)(H:Hp)(vs:List V)(Q:VK)(E:XK),Room k (A.deeper (envOfC qual scope s.heap.objs.size f cdv))->sp vs H Q E ->
   ∃t,PSs (cxOf CX P w K mg base N qual scope f cdv A outer s H E) body t/\t {nx:=λ_ H'=>Q .non H',rt:=Q} (start N vs) H) :
  FnOk P w K mg base CX (k+1) f (PySem.W.fnOf name qual params body scope dV kV doc pm an cdv ct) ps sp:=by
 refine⟨len,λA outer s H args us vs Q E hr e0 hb r hsp=>?_⟩
 have hl:=len _ _ _ _ hsp
 have KX:K.In s.heap:=e0.mod.kin.keeps λb o e=>(e0.bs b o e).1
 have lim:s.heap.NoLimit:=e0.mod.nolimit.keeps λb o e=>(e0.bs b o e).1
 have hkind:∀y∈ps.zip us,scope.names.lookup y.1=some .local\/(scope.names.lookup y.1=some .cell/\((cellsFrom (s.heap.objs.size+1) scope.names []).lookup y.1).isSome=true):=fun⟨n,v⟩ hy=>by
  rcases S.par n (List.of_mem_zip hy).1 with q|q
  ·exact .inl q
  ·exact .inr ⟨q,PySem.W.cellsFrom_some _ _ _ (.inl q)⟩
 refine codeAny_call_function hr.depth (KX _ _ lk) rfl S.co S.gen rfl (PySem.W.codeRec_of KX hcd) (hb _ _ _ _ ?_)
 refine wpAny_newFunctionEnv_cells S.kind hkind λenv he s1 x=>?_
 subst he
 refine⟨lim.keeps x.toInCall.keep,codeAny_func ?_⟩
 obtain⟨t,ht,hq⟩:=hbody A outer s H vs Q E (hr.deeper _) hsp
 have I:Inv (cxOf CX P w K mg base N qual scope f cdv A outer s H E) [] (start N vs) H s1:=jmg S hr.hd e0 hl r x
 refine Ox (ht [] s1 (start N vs) H _ I hq) (λfl s' hs=>?_) λe s' hs=>hs
 have fin:∀{σ':St}{H':Hp}{v:V}{u:Value},Inv (cxOf CX P w K mg base N qual scope f cdv A outer s H E) [] σ' H' s'->RelV v u->Q v H'->CE outer P w H s Q u s' :=
  fun{σ' H' v u} J rv q=>⟨v,H',J.os,J.bare,J.base,J.hok,rv,q⟩
 cases fl with
 |ret u =>
  obtain⟨v,σ',H',J,rv,q⟩:=hs
  exact fin J rv q
 |next =>
  obtain⟨σ',H',J,q⟩:=hs
  exact fin (v:=V.non) (u:=Value.none) J rfl q
 |brk =>
  obtain⟨_,_,_,q⟩:=hs
  exact False.elim q
 |cont =>
  obtain⟨_,_,_,q⟩:=hs
  exact False.elim q
section
variable{X:Cx}{x:Str}{p pos:Pos}{e:Expr}{es:List Expr}{t:TA}{id T:String}{r:List V->Hp->VK->Prop}
def tCB(r:List V->Hp->VK->Prop)(t:TA):TE:=λσ H Q=>t σ H λvs H1=>r vs H1 Q
theorem pe_callB(hc:jct X (.builtin id) r)(hg:Gl X x)(hm:X.mg x=none)(hv:bootBuiltins x=some (.builtin id))(ha:PA X (e::es) t)(hn:x≠"__name__":=by decide)(hdb:(x == ("__debug__":Str))=false:=by decide)
  (he:starEach (e::es) X.env=(false,eval e X.env)::starEach es X.env:=by rfl) (hpl:(backTo pos (starEach es X.env)).any (·.1)=false:=by rfl):PE X (.Call (.Name x p) (e::es) [] pos) (tCB r t):=by
 intro pins s σ H Q I h
 refine Uu (jdj I hg hm hv ?_ hn hdb)
 exact PyProof.Rows.callWith_builtin1 (thn (ha pos pins s σ H _ I h) λus s1 ⟨vs,H1,I1,r1,q1⟩=>hc pins s1 σ H1 vs us Q I1 r1 q1) he hpl
theorem pe_callTy(hc:jct X (.type T) r)(hg:Gl X x)(hm:X.mg x=none)(hv:bootBuiltins x=some (.type T))(ha:PA X (e::es) t)(hn:x≠"__name__":=by decide)(hdb:(x == ("__debug__":Str))=false:=by decide)
  (he:starEach (e::es) X.env=(false,eval e X.env)::starEach es X.env:=by rfl) (hpl:(backTo pos (starEach es X.env)).any (·.1)=false:=by rfl):PE X (.Call (.Name x p) (e::es) [] pos) (tCB r t):=by
 intro pins s σ H Q I h
 refine Uu (jdj I hg hm hv ?_ hn hdb)
 exact Uf (thn (ha pos pins s σ H _ I h) λus s1 ⟨vs,H1,I1,r1,q1⟩=>hc pins s1 σ H1 vs us Q I1 r1 q1) he hpl
end
end L2
namespace HT
open PySem PyProof.Rows
section
variable{prog:Program}{w:World}{A:Around}{E:Value->Shared->Prop}{s:Shared}
theorem cat_tup{t b:Addr}{vs ws:List Value}{Q:Value->Shared->Prop}(ht:IsTup s.heap t vs.toArray)(hb:IsTup s.heap b ws.toArray)(hv:vs≠[])
  (h1:ws=[]->Q (.ref t) s) (h2:ws≠[]->Q (.ref s.heap.objs.size) {s with heap:=s.heap.push {cls:=.type "tuple",data:=.seq (vs++ws).toArray}})
  (hsz:vs.length+ws.length<=sizeLine):wpAny (model prog w) A (binaryOp .Add (.ref t) (.ref b)) Q E s:=by
 obtain⟨⟨cls,dd,data,sl⟩,ho,hc,n,hd⟩:=id ht
 obtain⟨⟨cls2,dd2,data2,sl2⟩,ho2,hc2,n2,hd2⟩:=id hb
 simp only at hc hd hc2 hd2
 subst hc hd hc2 hd2
 have e:vs.toArray++ws.toArray=(vs++ws).toArray:=by simp
 by_cases hw:ws=[]
 ·exact concat_meets ⟨_,ho,rfl⟩ ⟨_,ho2,rfl⟩ Ye Y6 Wi Wf (U8 _ _)
   (tuple_addW1 t b vs.toArray ws.toArray n n2 dd dd2 sl sl2 (by simpa using hv) (by simp[hw])) ⟨ho,ho2,h1 hw⟩
 ·refine concat_meets ⟨_,ho,rfl⟩ ⟨_,ho2,rfl⟩ Ye Y6 Wi Wf (U8 _ _)
   (tuple_addW2 t b vs.toArray ws.toArray n n2 dd dd2 sl sl2 (by simpa using hv) (by simpa using hw) (by rw[Aj,Aj];exact hsz)) ⟨ho,ho2,?_⟩
  rw[e]
  exact h2 hw
def sIx(n d:Nat):Option Int->Nat
 |none=>d
 |some v=>if v<0 then(v+(n:Int)).toNat else min v.toNat n
theorem sIx_nat(n d k:Nat):sIx n d (some (k:Int))=min k n:=by
 show(if(k:Int)<0 then((k:Int)+(n:Int)).toNat else min (k:Int).toNat n)=min k n
 rw[At (by omega),Int.toNat_natCast]
theorem jp0(n d:Nat)(hd:d<=n)(o:Option Int):sIx n d o<=n:=by
 cases o with
 |none=>exact hd
 |some v =>
  show(if v<0 then(v+(n:Int)).toNat else min v.toNat n)<=n
  by_cases hv:v<0
  ·rw[Ap hv];omega
  ·rw[At hv];exact Nat.min_le_right _ _
theorem jjz(v:Int)(n d:Nat):(if v<0 then max (v+(n:Int)) 0 else min v (n:Int))=((sIx n d (some v):Nat):Int):=by
 show(if v<0 then max (v+(n:Int)) 0 else min v (n:Int))=(((if v<0 then(v+(n:Int)).toNat else min v.toNat n):Nat):Int)
 by_cases hv:v<0
 ·simp only[Ap hv];omega
 ·simp only[At hv];omega
theorem jku(lo hi:Option Int)(n:Nat):Builtin.Slice.sliceAdjust lo hi 1 (n:Int)=(((sIx n 0 lo:Nat):Int),((sIx n n hi:Nat):Int)):=by
 have h1:¬((1:Int)<0):=by omega
 unfold Builtin.Slice.sliceAdjust
 simp only[h1,O6]
 refine Prod.ext ?_ ?_
 ·cases lo with
  |none=>rfl
  |some v=>exact jjz v n 0
 ·cases hi with
  |none=>rfl
  |some v=>exact jjz v n n
theorem places_gen(i j:Nat):Builtin.Slice.slicePlaces (i:Int) (j:Int) 1=j-i:=by
 unfold Builtin.Slice.slicePlaces
 have h1:(1:Int)>0:=by omega
 simp only[h1,Uj,Int.ediv_one]
 split <;> omega
theorem jf0{v:Value}{o:Option Int}{Q:Option Int->Shared->Prop}(p:IsPart v o)(h:Q o s):wpAny (model prog w) A (Builtin.Slice.slicePartIndex v) Q E s:=by
 cases p with
 |none=>exact slicePart_none h
 |int i t=>exact slicePart_int h
theorem sliceApplied_gen{sl:Addr}{vl vu:Value}{lo hi:Option Int}{n:Nat}{Q:Int×Int×Nat->Shared->Prop}(hs:s.heap.IsSliceOf sl vl vu .none)(pl:IsPart vl lo)(pu:IsPart vu hi)
  (h:Q (((sIx n 0 lo:Nat):Int),1,sIx n n hi-sIx n 0 lo) s):wpAny (model prog w) A (Builtin.Slice.sliceApplied (.ref sl) (pure (n:Int))) Q E s:=by
 obtain⟨os,hos,hcs,hds⟩:=id hs
 unfold Builtin.Slice.sliceApplied Builtin.Slice.sliceFields
 refine Aa (Aa (Ul hos hds (x:=vl) rfl (Aa (Ul hos hds (x:=vu) rfl (Aa (Ul hos hds (x:=.none) rfl (Ab ?_)))))))
 refine Aa (slicePart_none ?_)
 show wpAny _ _ (if((1:Int) == 0)=true then _ else _) _ _ s
 rw[At (by decide)]
 refine Aa (jf0 pl (Aa (jf0 pu (Aa (Ab ?_)))))
 show wpAny _ _ (match Builtin.Slice.sliceAdjust lo hi 1 (n:Int)with|(lo,hi)=>pure (lo,(1:Int),Builtin.Slice.slicePlaces lo hi 1)) _ _ s
 rw[jku lo hi n]
 show wpAny _ _ (pure (((sIx n 0 lo:Nat):Int),(1:Int),Builtin.Slice.slicePlaces ((sIx n 0 lo:Nat):Int) ((sIx n n hi:Nat):Int) 1)) _ _ s
 rw[places_gen]
 exact Ab h
theorem pick_gen(xs:Array Value)(i k:Nat):((List.range k).filterMap fun(m:Nat)=>xs[((i:Int)+(m:Int)*1).toNat]?).toArray=((xs.toList.drop i).take k).toArray:=by
 have e:(fun(m:Nat)=>xs[((i:Int)+(m:Int)*1).toNat]?)=λm=>xs[i+m]?:=by
  funext m
  have:((i:Int)+(m:Int)*1).toNat=i+m:=by omega
  rw[this]
 rw[e]
 have:=pick_run xs i k
 rw[List.filterMap_map]at this
 have e2:((λx=>xs[x]?)∘λx=>i+x)=λm=>xs[i+m]?:=rfl
 rw[e2]at this
 rw[this]
theorem getItem_tuple_cut{t sl:Addr}{items:Array Value}{vl vu:Value}{lo hi:Option Int}{Q:Value->Shared->Prop}(ht:IsTup s.heap t items)(hs:s.heap.IsSliceOf sl vl vu .none)(pl:IsPart vl lo)(pu:IsPart vu hi)
  (hw:¬(sIx items.size 0 lo=0/\sIx items.size items.size hi=items.size))
  (h:Q (.ref s.heap.objs.size) {s with heap:=s.heap.push {cls:=.type "tuple",data:=.seq ((items.toList.drop (sIx items.size 0 lo)).take (sIx items.size items.size hi-sIx items.size 0 lo)).toArray}})
  (hsz:items.size<=sizeLine):wpAny (model prog w) A (getItem (.ref t) (.ref sl)) Q E s:=by
 have htake:sizeOk (.seq ((items.toList.drop (sIx items.size 0 lo)).take (sIx items.size items.size hi-sIx items.size 0 lo)).toArray):=by
  show((items.toList.drop (sIx items.size 0 lo)).take (sIx items.size items.size hi-sIx items.size 0 lo)).toArray.size<=sizeLine
  rw[Aj,A5,Yf,Array.length_toList]
  omega
 have hj:sIx items.size items.size hi<=items.size:=jp0 _ _ (Af _) hi
 obtain⟨os,hos,hcs,hds⟩:=id hs
 have hTs:s.TypeIs (.ref sl) "slice":=⟨os,hos,hcs⟩
 unfold getItem
 try with_reducible refine On ?_
 first|refine Aa (Ab ?_)|skip
 refine Aa (wpAny_sequenceKey ht.typeIs (by decide) ?_)
 refine Aa (Oz (name:=Str.ofString "__getitem__") ht.typeIs Os
  (Op Os ht.typeIs entry_tuple_getitem ?_ (args_tuple_getitem _ _)))
 show wpAny _ _ (Builtin.Tuple.tupleItemsOf (.ref t) >>= _) _ _ s
 refine Aa (tupleItemsOf_ ht ?_)
 refine Aa (U9 hTs ?_)
 rw[Ap (by decide)]
 refine Aa (sliceApplied_gen hs pl pu ?_)
 have hno:¬((((sIx items.size 0 lo:Nat):Int) == 0 && (1:Int) == 1 && (sIx items.size items.size hi-sIx items.size 0 lo) == items.size)=true):=by
  intro q
  rw[Iz,Iz]at q
  have q1:((sIx items.size 0 lo:Nat):Int)=0:=eq_of_beq q.1.1
  have q2:sIx items.size items.size hi-sIx items.size 0 lo=items.size:=eq_of_beq q.2
  exact hw ⟨by omega,by omega⟩
 show wpAny _ _ (if(((sIx items.size 0 lo:Nat):Int) == 0 && (1:Int) == 1 && (sIx items.size items.size hi-sIx items.size 0 lo) == items.size)=true then _ else _) _ _ s
 rw[At hno,pick_gen]
 first
  |exact Aa (m:=Builtin.Tuple.tupleExact _) (Oc (Ab ⟨_,rfl,Ab h⟩) htake)
  |exact Aa (m:=Builtin.Tuple.tupleExact _) (Oc (Aa (Ab (Ab ⟨_,rfl,Ab h⟩))) htake)
  |exact Aa (Aa (m:=Builtin.Tuple.tupleExact _) (Oc (Ab (Ab ⟨_,rfl,Ab h⟩)) htake))
  |exact Aa (Aa (m:=Builtin.Tuple.tupleExact _) (Oc (Ab ⟨_,rfl,Ab h⟩) htake))
end
end HT
namespace L2
open PySem PySem.Spec PyProof.Rows
abbrev TO:=St->Hp->(Option Int->Hp->Prop)->Prop
def PO(X:Cx)(e:Option Expr)(t:TO):Prop :=
 ∀(pins:List (Addr×Obj))(s:Shared)(σ:St)(H:Hp)(Q:Option Int->Hp->Prop),Inv X pins σ H s->t σ H Q ->
  wpAny (model X.prog X.w) X.A (evalPart e X.env) (λu s'=>∃o H',Inv X pins σ H' s'/\IsPart u o/\Q o H') X.xe s
def jex:TO:=λ_ H Q=>Q none H
def jh8(t:TE):TO:=λσ H Q=>t σ H λx H1=>∃i,x=.int i/\Q (some i) H1
section
variable{X:Cx}{e:Expr}{te:TE}{lo hi:Option Expr}{tl th:TO}{pos p2:Pos}
theorem po_none:PO X none jex:=by
 intro pins s σ H Q I h
 rw[evalPart_none]
 exact Ab ⟨none,H,I,.none,h⟩
theorem po_some(h:PE X e te):PO X (some e) (jh8 te):=by
 intro pins s σ H Q I hw
 rw[evalPart_some]
 refine thn (h pins s σ H _ I hw) λu s1 ⟨x,H1,I1,r1,q1⟩=>?_
 obtain⟨i,rfl,q⟩:=q1
 obtain⟨t,rfl⟩:=r1
 exact⟨some i,H1,I1,.int i t,q⟩
def SlR(X:Cx)(r:V->Option Int->Option Int->Hp->VK->Prop):Prop :=
 ∀(pins:List (Addr×Obj))(s:Shared)(σ:St)(H:Hp)(x:V)(v vl vu:Value)(lo hi:Option Int)(sl:Addr)(Q:VK),Inv X pins σ H s->RelV x v->s.heap.IsSliceOf sl vl vu .none->IsPart vl lo->IsPart vu hi->r x lo hi H Q ->
  ∃T id,typeLookup (.type T) "__getitem__"=pure (some (.builtin id))/\s.TypeIs v T/\wpAny (model X.prog X.w) X.A (getItem v (.ref sl)) (EP X pins σ Q) X.xe s
theorem SlR.or{r r':V->Option Int->Option Int->Hp->VK->Prop}(h:SlR X r)(h':SlR X r'):SlR X (λx lo hi H Q=>r x lo hi H Q\/r' x lo hi H Q):=by
 intro pins s σ H x v vl vu lo hi sl Q I rx hs pl pu q
 rcases q with q|q
 ·exact h pins s σ H x v vl vu lo hi sl Q I rx hs pl pu q
 ·exact h' pins s σ H x v vl vu lo hi sl Q I rx hs pl pu q
def tSl(r:V->Option Int->Option Int->Hp->VK->Prop)(te:TE)(tl th:TO):TE:=λσ H Q=>te σ H λx H1=>tl σ H1 λl H2=>th σ H2 λu H3=>r x l u H3 Q
theorem pe_slice{r:V->Option Int->Option Int->Hp->VK->Prop}(hr:SlR X r)(he:PE X e te)(hl:PO X lo tl)(hu:PO X hi th):PE X (.Subscript e (.Slice lo hi none p2) pos) (tSl r te tl th):=by
 intro pins s σ H Q I h
 refine Subscript_ (thn (he pins s σ H _ I h) λv s1 ⟨x,H1,I1,r1,q1⟩=>?_)
 refine wpAny_Slice (thn (hl pins s1 σ H1 _ I1 q1) λvl s2 ⟨l,H2,I2,pl,q2⟩=>thn (hu pins s2 σ H2 _ I2 q2) λvu s3 ⟨u,H3,I3,pu,q3⟩=>?_)
 rw[evalPart_none]
 refine Ab ?_
 have I4:Inv X pins σ H3 {s3 with heap:=s3.heap.push {cls:=.type "slice",data:=.fields #[vl,vu,.none]}}:=I3.kept (t':=s3.toks) λb ob q=>Ac _ q
 obtain⟨T,id,hT,ht,hg⟩:=hr pins {s3 with heap:=s3.heap.push {cls:=.type "slice",data:=.fields #[vl,vu,.none]}} σ H3 x v vl vu l u s3.heap.objs.size Q I4 r1 (Heap.IsSliceOf.new ..) pl pu q3
 show wpAny (model X.prog X.w) X.A (subscriptTail e (.Slice lo hi none p2) v (.ref s3.heap.objs.size)) (EP X pins σ Q) X.xe {s3 with heap:=s3.heap.push {cls:=.type "slice",data:=.fields #[vl,vu,.none]}}
 exact tail_any (ops:=[.ref s3.heap.objs.size,v]) ht hT hg (by with_unfolding_all rfl)
def cutV(xs:List V)(lo hi:Option Int):List V:=(xs.drop (HT.sIx xs.length 0 lo)).take (HT.sIx xs.length xs.length hi-HT.sIx xs.length 0 lo)
theorem je3(xs:List V)(lo hi:Option Int):(cutV xs lo hi).length<=xs.length:=by
 unfold cutV
 rw[A5,Yf]
 omega
def rSlT(K:PySem.W.Frag):V->Option Int->Option Int->Hp->VK->Prop:=λx lo hi H Q=>∃a xs,x=.ref a/\SqT K H a xs /\
 ¬(HT.sIx xs.length 0 lo=0/\HT.sIx xs.length xs.length hi=xs.length)/\∀p,H p=none->Q (.ref p) (upd H p (.tup (cutV xs lo hi)))
theorem sl_tup:SlR X (rSlT X.K):=by
 intro pins s σ H x v vl vu lo hi sl Q I rx hs pl pu h
 obtain⟨a,xs,rfl,hx,hw,q⟩:=h
 cases rx
 obtain⟨its,r,ht,hz⟩:=I.tuple hx
 have hlen:its.toArray.size=xs.length:=by rw[Aj];exact r.length.symm
 refine⟨"tuple",_,Os.lookup,ht.typeIs,?_⟩
 refine HT.getItem_tuple_cut ht hs pl pu (by rw[hlen];exact hw) ?_ (by rw[hlen];exact hz)
 rw[hlen]
 refine⟨.ref s.heap.objs.size,_,I.laid (t':=s.toks) (o:=.tup (cutV xs lo hi)) (λb ob q=>Ac _ q) (Af _) ?_,rfl,q _ (I.hok.fresh (Af _))⟩
 exact⟨Io (je3 xs lo hi) hz,_,(r.drop (HT.sIx xs.length 0 lo)).take (HT.sIx xs.length xs.length hi-HT.sIx xs.length 0 lo),IsTup.new _ _⟩
def jqk(K:PySem.W.Frag):R2:=λx y H Q=>∃a b xs ys,x=.ref a/\y=.ref b/\SqT K H a xs/\SqT K H b ys/\xs≠[]/\xs.length+ys.length<=sizeLine /\
 (ys=[]->Q (.ref a) H)/\(ys≠[]->∀p,H p=none->Q (.ref p) (upd H p (.tup (xs++ys))))
theorem Vals.nil_iff{xs:List V}{us:List Value}(r:Vals xs us):us=[]↔xs=[]:=by
 cases r with
 |nil=>simp
 |cons _ _=>simp
theorem jb3:OpR X (binaryOp .Add) (jqk X.K):=by
 intro pins s σ H x y v u Q I rx ry h
 obtain⟨a,b,xs,ys,rfl,rfl,ha,hb,hx,hz,q1,q2⟩:=h
 cases rx
 cases ry
 obtain⟨its,r1,p1,_⟩:=I.tuple ha
 obtain⟨its2,r2,p2,_⟩:=I.tuple hb
 refine HT.cat_tup p1 p2 (λz=>hx (r1.nil_iff.mp z)) (λz=>⟨.ref a,H,I,rfl,q1 (r2.nil_iff.mp z)⟩) (λz=>?_) (by rw[<-r1.length,<-r2.length];exact hz)
 refine⟨.ref s.heap.objs.size,_,I.laid (t':=s.toks) (o:=.tup (xs++ys)) (λb ob q=>Ac _ q) (Af _) ?_,rfl,q2 (λw=>z (r2.nil_iff.mpr w)) _ (I.hok.fresh (Af _))⟩
 exact⟨by rw[Aw];exact hz,_,r1.append r2,IsTup.new _ _⟩
end
def ixN(n:Nat)(i:Int):Option Nat:=if 0<=i then(if i<n then some i.toNat else none)else if -(n:Int)<=i then some (i+n).toNat else none
def atI{α:Type}(xs:List α)(i:Int):Option α:=(ixN xs.length i).bind λj=>xs[j]?
theorem jkc{n:Nat}{i:Int}{j:Nat}(h:ixN n i=some j):seqIndex? i n=some j/\j<n/\-(n:Int)<=i/\i<n:=by
 unfold ixN at h
 by_cases h0:0<=i
 ·rw[Ap h0]at h
  by_cases h1:i<n
  ·rw[Ap h1]at h
   have e:i.toNat=j:=Av h
   exact⟨by rw[seqIndex_of h0 h1,e],by omega,by omega,h1⟩
  ·rw[At h1]at h;cases h
 ·rw[At h0]at h
  by_cases h1:-(n:Int)<=i
  ·rw[Ap h1]at h
   have e:(i+n).toNat=j:=Av h
   exact⟨by rw[seqIndex_neg (by omega) h1,e],by omega,h1,by omega⟩
  ·rw[At h1]at h;cases h
theorem jf8{α:Type}{xs:List α}{i:Int}{v:α}(h:atI xs i=some v):∃j,seqIndex? i xs.length=some j/\xs[j]?=some v/\j<xs.length/\-(xs.length:Int)<=i/\i<xs.length:=by
 unfold atI at h
 cases e:ixN xs.length i with
 |none=>rw[e]at h;cases h
 |some j =>
  rw[e]at h
  obtain⟨h1,h2,h3,h4⟩:=jkc e
  exact⟨j,h1,h,h2,h3,h4⟩
theorem jcm{α:Type}{xs:List α}{j:Nat}{v:α}(h:xs[j]?=some v):atI xs (j:Int)=some v:=by
 have hj:j<xs.length:=(Ag.mp h).1
 have e:ixN xs.length (j:Int)=some j:=by
  unfold ixN
  rw[Ap (by omega),Ap (by omega)];simp
 unfold atI;rw[e];exact h
theorem jng{α:Type}(xs:List α)(v:α):atI (xs++[v]) (-1)=some v:=by
 have hl:(xs++[v]).length=xs.length+1:=by simp
 have e:ixN (xs++[v]).length (-1)=some xs.length:=by
  unfold ixN
  rw[hl,At (by decide),Ap (by omega)]
  congr 1
  omega
 unfold atI
 rw[e]
 show(xs++[v])[xs.length]?=some v
 simp
def jjy(b:Expr):Prop:=∀o i,subscripted b false o i=operate [o,i] (getItem o i)
def IxR(X:Cx)(r:R2):Prop :=
 ∀(value slice:Expr)(pins:List (Addr×Obj))(s:Shared)(σ:St)(H:Hp)(x y:V)(v u:Value)(Q:VK),Inv X pins σ H s->RelV x v->RelV y u->r x y H Q ->
  subscripted slice false v u=operate [v,u] (getItem v u)->wpAny (model X.prog X.w) X.A (subscriptTail value slice v u) (EP X pins σ Q) X.xe s
def MtR(X:Cx)(id:String)(r:V->List V->Hp->VK->Prop):Prop :=
 ∀(pins:List (Addr×Obj))(s:Shared)(σ:St)(H:Hp)(x:V)(xs:List V)(v:Value)(us:List Value)(Q:VK),Inv X pins σ H s->RelV x v->Vals xs us->r x xs H Q ->
  wpAny (model X.prog X.w) X.A (call (.builtin id) (v::us)) (EP X pins σ Q) X.xe s
section
variable{X:Cx}{a b:Expr}{ta tb:TE}{pos:Pos}
theorem pe_ix{r:R2}(hr:IxR X r)(ha:PE X a ta)(hb:PE X b tb)(hs:jjy b):PE X (.Subscript a b pos) (tOp r ta tb):=by
 intro pins s σ H Q I h
 exact Subscript_ (binT ha hb I h λv u s2 x y H2 I2 rx ry q=>hr a b pins s2 σ H2 x y v u Q I2 rx ry q (hs _ _))
def rIxL(K:PySem.W.Frag):R2:=λx y H Q=>∃p xs i v,x=.ref p/\y=.int i/\SqL K H p xs/\atI xs i=some v/\Q v H
def rIxT(K:PySem.W.Frag):R2:=λx y H Q=>∃p xs i v,x=.ref p/\y=.int i/\SqT K H p xs/\atI xs i=some v/\Q v H
def rIxS:R2:=λx y H Q=>∃z i c,x=.str z/\y=.int i/\z.length<=sizeLine/\atI z.cps.toList i=some c/\Q (.str ⟨#[c]⟩) H
theorem jbf:IxR X (rIxL X.K):=by
 intro value slice pins s σ H x y v u Q I rx ry h hs
 obtain⟨p,xs,i,z,rfl,rfl,hq,he,q⟩:=h
 cases rx
 obtain⟨t,rfl⟩:=ry
 obtain⟨its,r,pl,hz⟩:=I.list hq
 obtain⟨j,h1,h2,h3,h4,h5⟩:=jf8 he
 obtain⟨w,ew,rw'⟩:=r.get h2
 have hl:=r.length
 have hn:=jd2
 have fin:EP X pins σ Q w s:=⟨z,H,I,rw',q⟩
 by_cases h0:0<=i
 ·have hj:i.toNat=j:=by
   rw[seqIndex_of h0 h5]at h1
   exact Av h1
  exact item_listR pl.isList h0 (by omega) (by rw[hj];simpa using ew) fin hs
 ·have hj:(i+(its.toArray.size:Int)).toNat=j:=by
   rw[seqIndex_neg (by omega) h4]at h1
   rw[Aj,<-hl]
   exact Av h1
  exact subscriptTail_builtinR (x:=w) pl.isList.typeIs slot_list_getitem.lookup
   (wpAny_getItem_list_neg (Q:=λr s'=>r=w/\EP X pins σ Q r s') pl.isList (by omega) (by rw[Aj] <;> omega) (by omega) (by rw[hj];simpa using ew) ⟨rfl,fin⟩) hs
theorem ix_tup:IxR X (rIxT X.K):=by
 intro value slice pins s σ H x y v u Q I rx ry h hs
 obtain⟨p,xs,i,z,rfl,rfl,hq,he,q⟩:=h
 cases rx
 obtain⟨t,rfl⟩:=ry
 obtain⟨its,r,pl,hz⟩:=I.tuple hq
 obtain⟨j,h1,h2,h3,h4,h5⟩:=jf8 he
 obtain⟨w,ew,rw'⟩:=r.get h2
 have hl:=r.length
 have hn:=jd2
 have fin:EP X pins σ Q w s:=⟨z,H,I,rw',q⟩
 exact subscriptTail_builtinR (x:=w) pl.typeIs slot_tuple_getitem.lookup
  (getItem_tuple (j:=j) (Q:=λr s'=>r=w/\EP X pins σ Q r s') pl (by omega) (by omega) (by rw[Aj,<-hl];exact h1) (by simpa using ew) ⟨rfl,fin⟩) hs
theorem ix_str:IxR X rIxS:=by
 intro value slice pins s σ H x y v u Q I rx ry h hs
 obtain⟨z,i,c,rfl,rfl,hz,he,q⟩:=h
 obtain⟨t,rfl⟩:=rx
 obtain⟨t',rfl⟩:=ry
 obtain⟨j,h1,h2,h3,h4,h5⟩:=jf8 he
 have hl:z.cps.toList.length=z.length:=by simp[Str.length]
 rw[hl]at h1 h4 h5
 have hn:=jd2
 exact tail_any (typeIs_str s z t) slot_str_getitem.lookup (getItem_str (c:=c) (by
  have e1:decide (i < -(2^63:Int))=false:=Ir (by omega)
  have e2:decide (i ≥ 2^63)=false:=Ir (by omega)
  rw[e1,e2,Bool.or_false]) (by rw[h1];simpa using h2) ⟨.str ⟨#[c]⟩,H,I.tok _,⟨_,rfl⟩,q⟩) hs
theorem jla(its:List Value)(n j:Nat)(u:Value):Obj.mapSeq (·.setIfInBounds j u) {cls:=.type "list",data:=.seq its.toArray n}={cls:=.type "list",data:=.seq (its.set j u).toArray n}:=by
 simp[Obj.mapSeq]
theorem Inv.lst{pins:List (Addr×Obj)}{σ:St}{H:Hp}{s:Shared}{p:Addr}{xs:List V}(I:Inv X pins σ H s)(h:H p=some (.lst xs)) :
  ∃(its:List Value)(n:Nat),Vals xs its/\s.heap.get? p=some {cls:=.type "list",data:=.seq its.toArray n}/\xs.length<=sizeLine:=by
 obtain⟨z,its,n,r,e⟩:=I.hok p _ h
 exact⟨its,n,r,e,z⟩
theorem Inv.lstUpd{pins:List (Addr×Obj)}{σ:St}{H:Hp}{s:Shared}{p:Addr}{xs ys:List V}{its its':List Value}{n n':Nat}{f:Obj->Obj}(I:Inv X pins σ H s)(h:H p=some (.lst xs))
  (ho:s.heap.get? p=some {cls:=.type "list",data:=.seq its.toArray n}) (hf:f {cls:=.type "list",data:=.seq its.toArray n}={cls:=.type "list",data:=.seq its'.toArray n'}) (r:Vals ys its') (hz:ys.length<=sizeLine) (t:Nat) :
  Inv X pins σ (upd H p (.lst ys)) {s with heap:=s.heap.update p f,toks:=t}:=by
 have e:(s.heap.update p f).get? p=some {cls:=.type "list",data:=.seq its'.toArray n'}:=by
  rw[Oe f ho (by rw[hf] <;> rfl),hf]
 refine I.write (x:=p) (e:=p) (by rw[h];trivial) (.inl rfl) (λb u hb q=>(Iu _ _ (Up hb)).trans q) ⟨_,e⟩ ?_
 exact⟨hz,its',n',r,e⟩
def jql:V->V->V->Hp->(Hp->Prop)->Prop:=λo i v H Q=>∃p xs k j,o=.ref p/\i=.int k/\H p=some (.lst xs)/\ixN xs.length k=some j/\Q (upd H p (.lst (xs.set j v)))
theorem jn5:PSet X jql:=by
 intro pins s σ H o i v ov iv u Q I ro ri rv h
 obtain⟨p,xs,k,j,rfl,rfl,hp,hj,q⟩:=h
 cases ro
 obtain⟨t,rfl⟩:=ri
 obtain⟨its,n,r,ho,hz⟩:=I.lst hp
 obtain⟨h1,h2,h3,h4⟩:=jkc hj
 have hl:=r.length
 have hn:=jd2
 have I':Inv X pins σ (upd H p (.lst (xs.set j v))) {s with heap:=s.heap.update p (Obj.mapSeq (·.setIfInBounds j u))} :=
  I.lstUpd hp ho (jla its n j u) (r.set rv j) (by rw[List.length_set];exact hz) s.toks
 by_cases h0:0<=k
 ·have hk:k.toNat=j:=by
   rw[seqIndex_of h0 h4]at h1
   exact Av h1
  exact PySem.W.ki_setAt ho h0 (by omega) (by rw[Aj,<-hl];exact h4) (by rw[hk];exact⟨_,I',q⟩)
 ·have hk:(k+(its.toArray.size:Int)).toNat=j:=by
   rw[seqIndex_neg (by omega) h3]at h1
   rw[Aj,<-hl]
   exact Av h1
  exact PySem.W.ki_setBack ho (by omega) (by rw[Aj,<-hl];exact h3) (by omega) (by rw[hk];exact⟨_,I',q⟩)
theorem jje(lo hi:Option Int)(n:Nat):(sliceBounds lo hi none n).1=((HT.sIx n 0 lo:Nat):Int)/\(sliceBounds lo hi none n).2.1=((HT.sIx n n hi:Nat):Int)/\(sliceBounds lo hi none n).2.2=1:=by
 refine⟨?_,?_,rfl⟩
 ·cases lo with
  |none=>simp[sliceBounds,HT.sIx]
  |some i =>
   simp only[sliceBounds,HT.sIx,Option.getD_none,show(1:Int)>0 by decide,Uj]
   by_cases h:i<0
   ·simp only[h,Uj] <;> omega
   ·simp only[h,O6] <;> omega
 ·cases hi with
  |none=>simp[sliceBounds,HT.sIx]
  |some i =>
   simp only[sliceBounds,HT.sIx,Option.getD_none,show(1:Int)>0 by decide,Uj]
   by_cases h:i<0
   ·simp only[h,Uj] <;> omega
   ·simp only[h,O6] <;> omega
theorem jhn(its:List Value)(lo hi:Option Int):slicePick its.toArray lo hi none=((its.drop (HT.sIx its.length 0 lo)).take (HT.sIx its.length its.length hi-HT.sIx its.length 0 lo)).toArray:=by
 obtain⟨h1,h2,h3⟩:=jje lo hi its.toArray.size
 unfold slicePick
 rw[h1,h2,h3]
 simp only[sliceRange_one,pick_run,Aj] <;> rfl
def rSlL(K:PySem.W.Frag):V->Option Int->Option Int->Hp->VK->Prop:=λx lo hi H Q=>∃a xs,x=.ref a/\SqL K H a xs/\∀p,H p=none->Q (.ref p) (upd H p (.lst (cutV xs lo hi)))
theorem sl_list:SlR X (rSlL X.K):=by
 intro pins s σ H x v vl vu lo hi sl Q I rx hs pl pu h
 obtain⟨a,xs,rfl,hx,q⟩:=h
 cases rx
 obtain⟨its,r,ht,hz⟩:=I.list hx
 have hlen:=r.length
 refine⟨"list",_,slot_list_getitem.lookup,ht.isList.typeIs,?_⟩
 refine wpAny_getItem_list_slice ht.isList hs pl pu .none (by simp) ?_ (by rw[Aj] <;> omega)
 rw[jhn,<-hlen]
 refine⟨.ref s.heap.objs.size,_,I.laid (t':=s.toks) (o:=.lst (cutV xs lo hi)) (λb ob q=>Ac _ q) (Af _) ?_,rfl,q _ (I.hok.fresh (Af _))⟩
 exact⟨Io (je3 xs lo hi) hz,_,0,(r.drop (HT.sIx xs.length 0 lo)).take (HT.sIx xs.length xs.length hi-HT.sIx xs.length 0 lo),Ai _ rfl⟩
def jc5:V->Bool
 |.non=>true
 |.bl _=>true
 |.int _=>true
 |.str _=>true
 |_=>false
def eqV:V->V->Bool
 |.non,.non=>true
 |.bl a,.bl b=>a == b
 |.bl a,.int b=>(if a then 1 else 0) == b
 |.int a,.bl b=>a == (if b then 1 else 0)
 |.int a,.int b=>a == b
 |.str a,.str b=>a == b
 |_,_=>false
theorem jpm{A:Around}{s:Shared}{y x:V}{u v:Value}(ry:RelV y u)(rx:RelV x v)(fy:jc5 y=true)(fx:jc5 x=true):SeqAt.EqAt A s u v (eqV y x):=by
 cases y with
 |non =>
  cases ry
  cases x with
  |non=>cases rx;exact SeqAt.EqAt.same _
  |bl b=>cases rx;exact SeqAt.EqAt.none_bool b
  |int b=>obtain⟨t,rfl⟩:=rx;exact SeqAt.EqAt.none_int b t
  |str b=>obtain⟨t,rfl⟩:=rx;exact SeqAt.EqAt.none_str b t
  |_=>exact absurd (show false=true from fx) A4
 |bl a =>
  cases ry
  cases x with
  |non=>cases rx;exact SeqAt.EqAt.bool_none a
  |bl b=>cases rx;exact SeqAt.EqAt.bool_bool a b
  |int b=>obtain⟨t,rfl⟩:=rx;exact SeqAt.EqAt.bool_int a b t
  |str b=>obtain⟨t,rfl⟩:=rx;exact SeqAt.EqAt.bool_str a b t
  |_=>exact absurd (show false=true from fx) A4
 |int a =>
  obtain⟨t',rfl⟩:=ry
  cases x with
  |non=>cases rx;exact SeqAt.EqAt.int_none a t'
  |bl b=>cases rx;exact SeqAt.EqAt.int_bool a t' b
  |int b=>obtain⟨t,rfl⟩:=rx;exact SeqAt.EqAt.int_int a t' b t
  |str b=>obtain⟨t,rfl⟩:=rx;exact SeqAt.EqAt.int_str a t' b t
  |_=>exact absurd (show false=true from fx) A4
 |str a =>
  obtain⟨t',rfl⟩:=ry
  cases x with
  |non=>cases rx;exact SeqAt.EqAt.str_none a t'
  |bl b=>cases rx;exact SeqAt.EqAt.str_bool a t' b
  |int b=>obtain⟨t,rfl⟩:=rx;exact SeqAt.EqAt.str_int a t' b t
  |str b=>obtain⟨t,rfl⟩:=rx;exact SeqAt.EqAt.str_str a t' b t
  |_=>exact absurd (show false=true from fx) A4
 |_=>exact absurd (show false=true from fy) A4
def eqU(x:V)(u:Value):Bool:=match u with
 |.none=>eqV .non x
 |.bool b=>eqV (.bl b) x
 |.int i _=>eqV (.int i) x
 |.str z _=>eqV (.str z) x
 |_=>false
theorem jma{x y:V}{u:Value}(r:RelV y u)(f:jc5 y=true):eqU x u=eqV y x:=by
 cases y with
 |non=>cases r;rfl
 |bl b=>cases r;rfl
 |int i=>obtain⟨t,rfl⟩:=r;rfl
 |str z=>obtain⟨t,rfl⟩:=r;rfl
 |_=>exact absurd (show false=true from f) A4
theorem jd0{x:V}:∀{xs:List V}{us:List Value},Vals xs us->xs.all jc5=true->us.any (eqU x)=xs.any λy=>eqV y x
 |_,_,.nil,_=>rfl
 |y::xs,u::us,.cons r t,f=>by
  rw[List.all_cons,Iz]at f
  rw[List.any_cons,List.any_cons,jma r f.1,jd0 t f.2]
theorem jdt{A:Around}{s:Shared}{x:V}{v:Value}(rx:RelV x v)(fx:jc5 x=true):∀{xs:List V}{us:List Value},Vals xs us->xs.all jc5=true->∀u∈us,SeqAt.EqAt A s u v (eqU x u)
 |_,_,.nil,_=>λu hu=>by cases hu
 |y::xs,u::us,.cons r t,f=>λu' hu=>by
  rw[List.all_cons,Iz]at f
  rcases Ar.mp hu with rfl|hu
  ·rw[jma r f.1];exact jpm r rx f.1 fx
  ·exact jdt rx fx t f.2 u' hu
def inV(x:V)(xs:List V):Bool:=xs.any λy=>eqV y x
def rIn(K:PySem.W.Frag)(neg:Bool):R2:=λx y H Q=>∃p xs,y=.ref p/\(SqL K H p xs\/SqT K H p xs)/\jc5 x=true/\xs.all jc5=true/\Q (.bl (if neg then !inV x xs else inV x xs)) H
theorem op_in_seq:OpR X (compareOp .In) (rIn X.K false):=by
 intro pins s σ H x y v u Q I rx ry h
 obtain⟨p,xs,rfl,hq,fx,fs,q⟩:=h
 cases ry
 rcases hq with hq|hq
 ·obtain⟨its,r,pl,hz⟩:=I.list hq
  refine SeqAt.in_listAt (eqU x) pl.isList (λw hw=>jdt rx fx r fs w (by simpa using hw)) ⟨.bl _,H,I,rfl,?_⟩
  rw[show its.toArray.any (eqU x)=its.any (eqU x)by simp,jd0 r fs]
  exact q
 ·obtain⟨its,r,pl,hz⟩:=I.tuple hq
  refine SeqAt.in_tupleAt (eqU x) pl (λw hw=>jdt rx fx r fs w (by simpa using hw)) ⟨.bl _,H,I,rfl,?_⟩
  rw[show its.toArray.any (eqU x)=its.any (eqU x)by simp,jd0 r fs]
  exact q
theorem op_notIn_seq:OpR X (compareOp .NotIn) (rIn X.K true):=by
 intro pins s σ H x y v u Q I rx ry h
 obtain⟨p,xs,rfl,hq,fx,fs,q⟩:=h
 cases ry
 rcases hq with hq|hq
 ·obtain⟨its,r,pl,hz⟩:=I.list hq
  refine SeqAt.notIn_listAt (eqU x) pl.isList (λw hw=>jdt rx fx r fs w (by simpa using hw)) ⟨.bl _,H,I,rfl,?_⟩
  rw[show its.toArray.any (eqU x)=its.any (eqU x)by simp,jd0 r fs]
  exact q
 ·obtain⟨its,r,pl,hz⟩:=I.tuple hq
  refine SeqAt.notIn_tupleAt (eqU x) pl (λw hw=>jdt rx fx r fs w (by simpa using hw)) ⟨.bl _,H,I,rfl,?_⟩
  rw[show its.toArray.any (eqU x)=its.any (eqU x)by simp,jd0 r fs]
  exact q
theorem op_notIn_str:OpR X (compareOp .NotIn) (λx y H Q=>∃i j,x=.str i/\y=.str j/\Q (.bl (!(!(Builtin.Str.occurrences j i 0 j.length 1).isEmpty))) H):=by
 intro pins s σ H x y v u Q I rx ry h
 obtain⟨i,j,rfl,rfl,q⟩:=h
 obtain⟨t,rfl⟩:=rx
 obtain⟨t',rfl⟩:=ry
 exact notIn_str ⟨.bl _,H,I,rfl,q⟩
theorem yw:jct X (.builtin "len") (λxs H Q=>∃p ys,xs=[.ref p]/\(SqL X.K H p ys\/SqT X.K H p ys)/\Q (.int ys.length) H):=by
 intro pins s σ H xs us Q I r h
 obtain⟨p,ys,rfl,hq,q⟩:=h
 obtain⟨u,rfl,rx⟩:=jc6 r
 cases rx
 have hn:=jd2
 rcases hq with hq|hq
 ·obtain⟨its,r',pl,hz⟩:=I.list hq
  have hlen:=r'.length
  exact Calls.call_len_list pl.isList (by simp only[Aj] <;> omega) ⟨.int ys.length,H,I.tok _,⟨s.toks+1,by rw[Aj,hlen]⟩,q⟩
 ·obtain⟨its,r',pl,hz⟩:=I.tuple hq
  have hlen:=r'.length
  exact len_tuple pl (by simp only[Aj] <;> omega) ⟨.int ys.length,H,I.tok _,⟨s.toks+1,by rw[Aj,hlen]⟩,q⟩
theorem call_len_str:jct X (.builtin "len") (λxs H Q=>∃z,xs=[.str z]/\z.length<=sizeLine/\Q (.int z.length) H):=by
 intro pins s σ H xs us Q I r h
 obtain⟨z,rfl,hz,q⟩:=h
 obtain⟨u,rfl,t,rfl⟩:=jc6 r
 have hn:=jd2
 exact len_str (by omega) ⟨.int z.length,H,I.tok _,⟨_,rfl⟩,q⟩
theorem ja0:jct X (.type "list") (λxs H Q=>∃p ys,xs=[.ref p]/\(SqL X.K H p ys\/SqT X.K H p ys)/\∀l,H l=none->Q (.ref l) (upd H l (.lst ys))):=by
 intro pins s σ H xs us Q I r h
 obtain⟨p,ys,rfl,hq,q⟩:=h
 obtain⟨u,rfl,rx⟩:=jc6 r
 cases rx
 have fin:∀(its:List Value),Vals ys its->ys.length<=sizeLine->∀(h':Heap)(c':Nat),(∀b o',s.heap.get? b=some o'->h'.get? b=some o') ->
   h'.get? s.heap.objs.size=some {cls:=.type "list",dict:=none,data:=.seq its.toArray c',slots:=#[]}->EP X pins σ Q (.ref s.heap.objs.size) {s with heap:=h'}:=λits r' hz h' c' kp e =>
  ⟨.ref s.heap.objs.size,_,I.laid (t':=s.toks) kp (Af _) (show ObjOk X.prog X.w _ h' _ (.lst ys)from⟨hz,its,c',r',e⟩),rfl,q _ (I.hok.fresh (Af _))⟩
 rcases hq with hq|hq
 ·obtain⟨its,r',pl,hz⟩:=I.list hq
  have hlen:=r'.length
  obtain⟨o,ho,hc,n,hd⟩:=pl.isList
  exact call_list_seq p (.inl rfl) ho hc hd (λh' c' kp e=>fin its r' hz h' c' kp e) (by simp only[Aj] <;> omega)
 ·obtain⟨its,r',pl,hz⟩:=I.tuple hq
  have hlen:=r'.length
  obtain⟨o,ho,hc,n,hd⟩:=pl
  exact call_list_seq p (.inr rfl) ho hc hd (λh' c' kp e=>fin its r' hz h' c' kp e) (by simp only[Aj] <;> omega)
theorem jay:jct X (.type "tuple") (λxs H Q=>∃p ys,xs=[.ref p]/\((SqL X.K H p ys/\∀l,H l=none->Q (.ref l) (upd H l (.tup ys)))\/(SqT X.K H p ys/\Q (.ref p) H))):=by
 intro pins s σ H xs us Q I r h
 obtain⟨p,ys,rfl,h⟩:=h
 obtain⟨u,rfl,rx⟩:=jc6 r
 cases rx
 rcases h with⟨hq,q⟩|⟨hq,q⟩
 ·obtain⟨its,r',pl,hz⟩:=I.list hq
  have hlen:=r'.length
  refine call_tuple_list pl.isList (λh' kp=>?_) (by simp only[Aj] <;> omega)
  have I1:Inv X pins σ H {s with heap:=h'}:=I.kept (t':=s.toks) kp
  have I2:Inv X pins σ (upd H h'.objs.size (.tup ys)) {s with heap:=h'.push {cls:=.type "tuple",data:=.seq its.toArray}} :=
   I1.laid (t':=s.toks) (λb o e=>Ac _ e) (Af _) (show ObjOk X.prog X.w _ _ _ (.tup ys)from⟨hz,its,r',IsTup.new _ _⟩)
  exact⟨.ref h'.objs.size,_,I2,rfl,q _ (I1.hok.fresh (Af _))⟩
 ·obtain⟨its,r',pl,hz⟩:=I.tuple hq
  exact call_tuple_same pl ⟨.ref p,H,I,rfl,q⟩
def tyV(K:PySem.W.Frag)(T:String)(x:V)(H:Hp):Prop:=match x with
 |.str _=>T="str"
 |.int _=>T="int"
 |.ref p=>(T="list"/\∃xs,SqL K H p xs)\/(T="tuple"/\∃o,K.lookup p=some o/\o.cls=.type "tuple"/\o.dict=none) \/
   (T="dict"/\((∃kvs,H p=some (.dK kvs))\/∃kvs,H p=some (.dT kvs)))\/(T="set"/\∃S n,H p=some (.set S n))
 |_=>False
theorem jp7{pins:List (Addr×Obj)}{σ:St}{H:Hp}{s:Shared}{T:String}{x:V}{v:Value}(I:Inv X pins σ H s)(r:RelV x v)(ty:tyV X.K T x H) :
  s.TypeIs v T/\∀a,v=.ref a->∃ob,s.heap.get? a=some ob/\ob.dict=none:=by
 cases x with
 |str z =>
  obtain⟨t,rfl⟩:=r
  cases(show T="str"from ty)
  exact⟨typeIs_str s z t,λ_ e=>nomatch e⟩
 |int i =>
  obtain⟨t,rfl⟩:=r
  cases(show T="int"from ty)
  exact⟨typeIs_int s i t,λ_ e=>nomatch e⟩
 |ref p =>
  cases r
  rcases ty with⟨rfl,xs,hq⟩|⟨rfl,o,hk,hc,hd⟩|⟨rfl,hk⟩|⟨rfl,S,n,hk⟩
  ·obtain⟨its,_,pl,_⟩:=I.list hq
   refine⟨pl.isList.typeIs,λa e=>?_⟩
   cases e
   obtain⟨o,n,e,c,hd,_⟩:=pl
   exact⟨o,e,hd⟩
  ·refine⟨⟨o,I.kIn p o hk,hc⟩,λa e=>?_⟩
   cases e
   exact⟨o,I.kIn _ o hk,hd⟩
  ·have z:∃o,s.heap.get? p=some o/\o.ExactDict:=by
    rcases hk with⟨kvs,hk⟩|⟨kvs,hk⟩
    ·obtain⟨_,_,_,_,o,_,_,e,ex,_⟩:=I.hok p _ hk
     exact⟨o,e,ex⟩
    ·obtain⟨_,_,_,_,o,_,_,e,ex,_⟩:=I.hok p _ hk
     exact⟨o,e,ex⟩
   obtain⟨o,e,ex⟩:=z
   refine⟨⟨o,e,ex.1⟩,λa e2=>?_⟩
   cases e2
   exact⟨o,e,ex.2.1⟩
  ·obtain⟨o,_,_,_,e,ex,_⟩:=I.hok p _ hk
   refine⟨⟨o,e,ex.1⟩,λa e2=>?_⟩
   cases e2
   exact⟨o,e,ex.2.1⟩
 |_=>exact False.elim ty
def tBM(K:PySem.W.Frag)(T:String)(r:V->List V->Hp->VK->Prop)(to:TE)(t:TA):TE:=λσ H Q=>to σ H λx H1=>tyV K T x H1/\t σ H1 λxs H2=>r x xs H2 Q
variable{o e:Expr}{es:List Expr}{to:TE}{t:TA}{name:Str}{apos cpos:Pos}{T id:String}{r:V->List V->Hp->VK->Prop}
theorem jcf(pa:PlainAttrs T)(slot:Slot T name id)(hty:typeOf (.builtin id)=pure (.type "method_descriptor"))(hm:MtR X id r)(ho:PE X o to)(ha:PA X (e::es) t)
  (hbase:attributeBase o name X.env (eval o X.env)=eval o X.env:=by rfl)
  (hfew:((backTo cpos (starEach (e::es) X.env)).all (λx=>!x.1) && (backToKw cpos (keywordEach [] X.env)).all (λx=>x.1.isSome)
   && decide ((e::es).length+([]:List Keyword).length+(if([]:List Keyword).isEmpty then 0 else 1)<30))=true:=by rfl)
  (hline:(apos.endLine == cpos.line)=true:=by rfl) (hs:starEach (e::es) X.env=(false,eval e X.env)::starEach es X.env:=by rfl) (hplain:(backTo cpos (starEach es X.env)).any (·.1)=false:=by rfl) :
  PE X (.Call (.Attribute o name apos) (e::es) [] cpos) (tBM X.K T r to t):=by
 intro pins s σ H Q I h
 refine wpAny_Call_method_late hbase hfew hline rfl (thn (ho pins s σ H _ I h) λv s1 ⟨x,H1,I1,r1,ty,q1⟩=>?_)
 obtain⟨h1,h2⟩:=jp7 I1 r1 ty
 refine⟨T,id,pa,slot,hty,h1,h2,?_⟩
 have hA:=ha cpos pins s1 σ H1 _ I1 q1
 rw[hs]at hA⊢
 refine Ya (by show(false || (backTo cpos (starEach es X.env)).any (·.1))=false;rw[hplain] <;> rfl) (Yq ?_)
 exact thn hA λus s2 ⟨vs,H2,I2,r2,q2⟩=>hm pins s2 σ H2 x vs v us Q I2 r1 r2 q2
end
def MtM(X:Cx)(id:String)(r:V->List V->Hp->VK->Prop):Prop :=
 ∀(pins:List (Addr×Obj))(s:Shared)(σ:St)(H:Hp)(x:V)(xs:List V)(v:Value)(us:List Value)(Q:VK),Inv X pins σ H s->RelV x v->Vals xs us->r x xs H Q ->
  wpAny (model X.prog X.w) X.A (call (.builtin id) (v::us)) (EP X pins σ Q) X.xe s
theorem Vals.one{x:V}{us:List Value}(h:Vals [x] us):∃u,us=[u]/\RelV x u:=jc6 h
theorem Vals.two{x y:V}{us:List Value}(h:Vals [x,y] us):∃u v,us=[u,v]/\RelV x u/\RelV y v:=jia h
theorem Vals.eraseIdx:∀{xs:List V}{us:List Value}(i:Nat),Vals xs us->Vals (xs.eraseIdx i) (us.eraseIdx i)
 |_,_,_,.nil=>.nil
 |_,_,0,.cons _ t=>t
 |_,_,i+1,.cons r t=>.cons r (Vals.eraseIdx i t)
theorem Vals.rep{xs:List V}{us:List Value}(h:Vals xs us):∀k:Nat,Vals (List.replicate k xs).flatten (List.replicate k us).flatten
 |0=>.nil
 |k+1=>by
  rw[List.replicate_succ,List.replicate_succ,List.flatten_cons,List.flatten_cons]
  exact Vals.append h (Vals.rep h k)
theorem jgw{α:Type}:∀(l:List α)(i:Nat),(l.eraseIdx i).length<=l.length
 |[],_=>Af _
 |_::_,0=>Wq _
 |_::r,i+1=>Nat.succ_le_succ (jgw r i)
theorem jgv(its:List Value):∀(k:Nat)(acc:List Value),
  List.foldl (λx1 x2=>x1++x2) acc.toArray (List.replicate k its.toArray)=(acc++(List.replicate k its).flatten).toArray
 |0,acc=>by simp
 |k+1,acc=>by
  have e:acc.toArray++its.toArray=(acc++its).toArray:=by simp
  have e2:(acc++its)++(List.replicate k its).flatten=acc++(List.replicate (k+1) its).flatten:=by
   rw[List.replicate_succ,List.flatten_cons,U4]
  rw[<-e2,<-jgv its k (acc++its),<-e,List.replicate_succ,List.foldl_cons]
section
variable{X:Cx}{pins:List (Addr×Obj)}{σ:St}{H:Hp}{s:Shared}{l b:Addr}{xs ys zs:List V}
theorem Inv.lset{its its':List Value}{n:Nat}{f:Array Value->Array Value}{t':Nat}(I:Inv X pins σ H s)(hH:H l=some (.lst xs))
  (e:s.heap.get? l=some {cls:=.type "list",data:=.seq its.toArray n}) (hf:f its.toArray=its'.toArray) (hv:Vals ys its') (hz:ys.length<=sizeLine) :
  Inv X pins σ (upd H l (.lst ys)) {s with heap:=s.heap.update l (Obj.mapSeq f),toks:=t'}:=by
 have q:=PySem.IsL.update e f
 rw[hf]at q
 refine I.write (x:=l) (e:=l) (by rw[hH];exact trivial) (.inl rfl) (λb' u hb hu=>(Iu s.heap (Obj.mapSeq f) (Up hb)).trans hu) ⟨_,q⟩ ?_
 exact⟨hz,its',_,hv,q⟩
theorem Inv.lnew{its:List Value}{t':Nat}(I:Inv X pins σ H s)(hv:Vals ys its)(hz:ys.length<=sizeLine) :
  Inv X pins σ (upd H s.heap.objs.size (.lst ys)) {s with heap:=s.heap.push {cls:=.type "list",data:=.seq its.toArray},toks:=t'} :=
 I.laid (λ_ _ q=>Ac _ q) (Af _) ⟨hz,its,0,hv,Ai _ rfl⟩
theorem Inv.fresh(I:Inv X pins σ H s):H s.heap.objs.size=none:=I.hok.fresh (Af _)
theorem Inv.lstM(I:Inv X pins σ H s)(hH:H l=some (.lst xs)):xs.length<=sizeLine/\∃(its:List Value)(n:Nat),Vals xs its/\xs.length=its.length/\s.heap.get? l=some {cls:=.type "list",data:=.seq its.toArray n}:=by
 obtain⟨z,its,n,r,e⟩:=I.hok l _ hH
 exact⟨z,its,n,r,r.length,e⟩
theorem jit{n:Nat}(h:n<=sizeLine):Builtin.List.listTooLong n=false:=by
 unfold Builtin.List.listTooLong
 exact Ir (by omega)
end
section
variable{X:Cx}
def jo5:V->List V->Hp->VK->Prop:=λx vs H Q=>∃l xs y,x=.ref l/\vs=[y]/\H l=some (.lst xs)/\xs.length<sizeLine/\Q .non (upd H l (.lst (xs++[y])))
theorem jao:MtM X "list.append" jo5:=by
 intro pins s σ H x vs v us Q I rx rv h
 obtain⟨l,xs,y,rfl,rfl,hH,hz,q⟩:=h
 cases rx
 obtain⟨u,rfl,ru⟩:=rv.one
 obtain⟨z,its,n,r,hl,e⟩:=I.lstM hH
 refine Yr F.slot_list_append ⟨_,e,rfl⟩ F.entry_list_append (F.args_list_append_2 _ _) (PySem.list_append l its.toArray n u (by rw[Aj];omega)) ⟨e,?_⟩
 refine⟨.non,_,I.lset (its':=its++[u]) hH e (by simp) (r.append (.cons ru .nil)) ?_,rfl,q⟩
 rw[Aw,List.length_singleton]
 omega
def jpz:V->List V->Hp->VK->Prop:=λx vs H Q=>∃l xs i k y,x=.ref l/\vs=[.int i]/\H l=some (.lst xs)/\-(2^63)<=i/\i<2^63/\seqIndex? i xs.length=some k/\xs[k]?=some y/\Q y (upd H l (.lst (xs.eraseIdx k)))
theorem mt_popAt:MtM X "list.pop" jpz:=by
 intro pins s σ H x vs v us Q I rx rv h
 obtain⟨l,xs,i,k,y,rfl,rfl,hH,h1,h2,hk,hy,q⟩:=h
 cases rx
 obtain⟨u,rfl,ru⟩:=rv.one
 obtain⟨t,rfl⟩:=ru
 obtain⟨z,its,n,r,hl,e⟩:=I.lstM hH
 obtain⟨w,hw,rw'⟩:=r.get hy
 refine Yr F.slot_list_pop ⟨_,e,rfl⟩ F.entry_list_pop (F.args_list_pop_2 _ _)
  (MeetsSeq.list_pop_at l its.toArray n i t k w (fitsIndex_both h1 h2) (by rw[Aj,<-hl];exact hk) (by rw[<-U3];exact hw) (by rw[Aj];omega)) ⟨e,?_⟩
 refine⟨y,_,I.lset (its':=its.eraseIdx k) hH e ?_ (r.eraseIdx k) ?_,rw',q⟩
 ·show its.toArray.eraseIdxIfInBounds k=(its.eraseIdx k).toArray
  rw[List.eraseIdxIfInBounds_toArray]
 ·have:=jgw xs k
  omega
def rCat:R2:=λx y H Q=>∃l b xs zs,x=.ref l/\y=.ref b/\H l=some (.lst xs)/\H b=some (.lst zs)/\xs.length+zs.length<=sizeLine/\∀p,H p=none->Q (.ref p) (upd H p (.lst (xs++zs)))
theorem op_cat:OpR X (binaryOp .Add) rCat:=by
 intro pins s σ H x y v u Q I rx ry h
 obtain⟨l,b,xs,zs,rfl,rfl,hH,hB,hz,q⟩:=h
 cases rx
 cases ry
 obtain⟨z,its,n,r,hl,e⟩:=I.lstM hH
 obtain⟨z2,its2,n2,r2,hl2,e2⟩:=I.lstM hB
 refine PySem.P.add_list e e2 ?_ (by rw[Aj,Aj];omega)
 have ea:its.toArray++its2.toArray=(its++its2).toArray:=by simp
 rw[ea]
 exact⟨.ref _,_,I.lnew (t':=s.toks) (r.append r2) (by rw[Aw];omega),rfl,q _ I.fresh⟩
def rRep:R2:=λx y H Q=>∃l k xs,x=.ref l/\y=.int k/\H l=some (.lst xs)/\-(2^63)<=k/\k<2^63/\xs.length*k.toNat<=sizeLine /\
 ∀p,H p=none->Q (.ref p) (upd H p (.lst (List.replicate k.toNat xs).flatten))
theorem jo0{α:Type}(xs:List α)(k:Nat):(List.replicate k xs).flatten.length=k*xs.length:=by
 induction k with
 |zero=>simp
 |succ k ih=>rw[List.replicate_succ,List.flatten_cons,Aw,ih,Wv,Nat.add_comm]
theorem op_rep:OpR X (binaryOp .Mult) rRep:=by
 intro pins s σ H x y v u Q I rx ry h
 obtain⟨l,k,xs,rfl,rfl,hH,h1,h2,hz,q⟩:=h
 cases rx
 obtain⟨t,rfl⟩:=ry
 obtain⟨z,its,n,r,hl,e⟩:=I.lstM hH
 have hlen:its.toArray.size*k.toNat<=sizeLine:=by rw[Aj,<-hl];exact hz
 have hcap:¬its.toArray.size*k.toNat>(2^63-1) / 8:=by
  have:(sizeLine:Nat)<=(2^63-1) / 8:=by decide
  omega
 have hfit:¬(!Builtin.List.listFitsIndex k)=true:=by
  rw[fitsIndex_both h1 h2]
  exact A4
 have hlong:¬Builtin.List.listTooLong (its.toArray.size*k.toNat)=true:=by
  rw[jit hlen]
  exact A4
 have hnew:List.foldl (λx1 x2=>x1++x2) #[] (List.replicate (if its.toArray.isEmpty=true then 0 else k.toNat) its.toArray)=(List.replicate k.toNat its).flatten.toArray:=by
  have f0:∀m:Nat,List.foldl (λx1 x2=>x1++x2) #[] (List.replicate m its.toArray)=(List.replicate m its).flatten.toArray:=λm=>by
   have:=jgv its m []
   rw[List.nil_append]at this
   exact this
  rw[f0]
  cases its with
  |nil=>simp
  |cons a r'=>rw[At (by simp)]
 refine wpAny_binaryOp_repeat_ref (T:="list") (U:="int") (by decide) ⟨_,e,rfl⟩ (λs'=>typeIs_int s' k t) noFill_list_mul F.fills_int_mul F.slot_int_rmul repeat_list F.slot_int_index.lookup
  (Yr F.slot_int_rmul (typeIs_int s k t) F.entry_int_rmul (F.args_int_rmul_2 _ _) (int___rmul___int_list k t l its.toArray n)
   ⟨e,rfl,⟨_,e,rfl⟩,Yr F.slot_list_mul ⟨_,e,rfl⟩ F.entry_list_mul (F.args_list_mul_2 _ _) (AutoListH.list___mul___list_int_3 l its.toArray n k t hfit hcap hlong) ⟨e,?_⟩⟩)
 rw[hnew]
 exact⟨.ref _,_,I.lnew (t':=s.toks) (r.rep k.toNat) (by rw[jo0,Nat.mul_comm];exact hz),rfl,q _ I.fresh⟩
end
end L2
namespace Att
open PySem PySem.W PySem.Calls PyProof.Rows
theorem jfq{P:Params}{h:Heap}:∀(ns:List Int)(vs:List Value),WellAll P h vs (ns.map WData.int)->IntsAre vs ns:=by
 intro ns
 induction ns with
 |nil =>
  intro vs w
  rw[Ww]at w
  cases w
  exact .nil
 |cons n ns ih =>
  intro vs w
  rw[A9]at w
  cases w with
  |cons a b =>
   cases a
   exact .cons _ _ (ih _ b)
theorem jmw{l:OpenLaw}{n:Nat}(hn:l.most=some n){P:Params}{h:Heap}{args:List WData}{vals:List Value}
  (hpre:l.row.toRowW.claim.pre args=true) (hwl:WellAll P h vals args) :
  ∃a vs ns,vals=[Value.ref a]/\args=[WData.list (ns.map WData.int)]/\h.get? a=some {cls:=.type "list",data:=.seq vs.toArray}/\IntsAre vs ns/\ns.length<=n:=by
 have hsh:WShape.hasAll [] args [.list .int]=true:=(pre_splitW hpre).1
 have hc:l.pre.holds [] {args:=args}=true:=(pre_splitW hpre).2
 obtain⟨d,r,rfl,h1,h2⟩:=hasAllW_cons hsh
 obtain rfl:=hasAllW_nil h2
 obtain⟨xs,rfl,h3⟩:=hasW_list h1
 obtain⟨ns,rfl⟩:=items_int h3
 have hlen:ns.length<=n:=by
  unfold OpenLaw.pre at hc
  have h4:(WTm.not (.lt (.lit (.int (n:Int))) (.len (.arg 0)))).holds [] {args:=[.list (ns.map .int)]}=true:=by
   have h4:=(holds_andW hc).1
   rw[hn]at h4
   exact h4
  have h5:=condW_of h4 (w_not (w_lt w_lit (w_len_list (w_arg rfl))))
  rw[Ad]at h5
  refine Nat.le_of_not_lt λq=>?_
  have q':(n:Int)<((ns.length:Nat):Int):=by omega
  first
   |(rw[Ol q']at h5;exact absurd h5 (by decide))
   |(simp at h5;omega)
 cases hwl with
 |cons w1 w2 =>
  cases w2
  cases w1 with
  |list ho hall=>exact⟨_,_,ns,rfl,rfl,ho,jfq ns _ hall,hlen⟩
theorem post_true(l:OpenLaw)(args:List WData):l.row.toRowW.claim.post args (.bool true) args=true :=
 postW_of (r:=l.row.toRowW) (X:=(true == true))
  (show WShape.has [] (.bool true) .bool=true by first|rfl|decide|simp[WShape.has,WShape.arms,WShape.armsAll])
  (show(WTm.eq .res (.lit (.bool true))).value [] {args:=args,res:=some (.bool true),after:=args}=some (.bool (true == true))from w_eq_bool (w_res rfl) w_lit) rfl
theorem attach_call{l:OpenLaw}{n:Nat}{q:Program}{loose:List Str}{XP:(Str->Option Value)->Heap->Prop}{YP:World->Heap->Prop}{d:DefRec}
  (hn:l.most=some n) (hdf:d.params.defaults=[])
  (call:∀(w:World)(s₀ s₁:Shared)(mg mb:Str->Option Value)(fa:Addr)(o:Obj)(pm cd doc:Value)(a:Addr)(vs:List Value)(ns:List Int),
   Ground q loose [] XP w s₀ mg mb s₁.heap->YP w s₁.heap ->
   s₁.heap.get? fa=some o->o.data=.func (docDef d.name d.params d.body d.scope pm cd doc)->s₁.heap.CodeRec cd d.name->mg d.name=some (.ref fa) ->
   s₁.heap.get? a=some {cls:=.type "list",data:=.seq vs.toArray}->IntsAre vs ns->ns.length<=n->s₁.gens=#[] ->
   codeAny (model l.prog w) callerA (.call (.ref fa) ⟨[.ref a],[]⟩) (λr s'=>r=.ok (.ret (.bool true))/\OldK s₁.heap s'.heap/\s'.os=s₁.os/\AllBare s'.gens) s₁) :
  WalkO q loose XP YP l.row.toRowW d [] (λf vs=>PySem.call f vs):=by
 intro w s₀ s₁ mg mb G Y fa o pm cd doc dV kV ho hd hcd hD hmg hg args vals as hpre hlay hrd hwl hlo
 obtain rfl:dV=.none:=Dflts.none hD hdf
 obtain rfl:kV=.none:=Dflts.noKw hD
 obtain⟨a,vs,ns,rfl,rfl,hobj,hints,hlen⟩:=jmw hn hpre hwl
 refine enter_call (Wk (call w s₀ s₁ mg mb fa o pm cd doc a vs ns G Y ho (fd_plain hd) hcd hmg hobj hints hlen hg) λr s' hq=>?_)
 obtain⟨rfl,h2,h3,h4⟩:=hq
 exact⟨.inl ⟨.bool true,.bool true,[],rfl,λ_=>rfl,.bool true,post_true l _,λ_=>⟨List.Pairwise.nil,λ_ hm=>(nomatch hm)⟩⟩,h2,h3,h4⟩
end Att
namespace L2
open PySem PySem.Spec PyProof.Rows
theorem jhl:∀{vs:List Value}{ns:List Int},IntsAre vs ns->Vals (ns.map V.int) vs
 |_,_,.nil=>.nil
 |_,_,.cons n t h=>.cons ⟨t,rfl⟩ (jhl h)
def Only(H:Hp):Prop:=∀b,H b=none\/∃o xs,H b=some (.frz o (.lst xs))
theorem jnt{P:Program}{w:World}{K:PySem.W.Frag}{mg mb:Str->Option Value}{CX:CXT}{k:Nat}{fa a:Addr}{fd:FuncData}{x:Str}{sp:Sp}{s₁:Shared}{vs:List Value}{ns:List Int}
  (KX:K.In s₁.heap) (hns:s₁.heap.Ns mainGlobals mg) (hb:s₁.heap.Ns builtinsNs mb) (hbb:∀x:Str,x≠"__name__"->mb x=bootBuiltins x) (hlim:s₁.heap.NoLimit) (hg:s₁.gens=#[])
  (ha:s₁.heap.get? a=some {cls:=.type "list",data:=.seq vs.toArray}) (hi:IntsAre vs ns) (hl:ns.length<=sizeLine) (hr:Room k callerA)
  (F:∀base:Heap,K.In base->base.Ns mainGlobals mg->FnOk P w K mg base CX k fa fd [x] sp) (hbind:∀(s:Shared)(u:Value),BindsTo s fd ⟨[u],[]⟩ [(x,u)])
  (hsp:∀H:Hp,Only H->SqL K H a (ns.map V.int)->sp [.ref a] H (λv _=>v=.bl true) λ_ _ _=>False)
  (hCX:∀H e s',CX [] H s₁ (λ_ _ _=>False) e s'->False) :
  codeAny (model P w) callerA (.call (.ref fa) ⟨[.ref a],[]⟩) (λr s'=>r=.ok (.ret (.bool true))/\OldK s₁.heap s'.heap/\s'.os=s₁.os/\AllBare s'.gens) s₁:=by
 have rv:=jhl hi
 have lenV:=hi.length
 have core:∀H:Hp,Only H->SqL K H a (ns.map V.int)->HOk P w H s₁.heap->(∀b,H b≠none->b=a)->(H a≠none->K.lookup a=none) ->
   codeAny (model P w) callerA (.call (.ref fa) ⟨[.ref a],[]⟩) (λr s'=>r=.ok (.ret (.bool true))/\OldK s₁.heap s'.heap/\s'.os=s₁.os/\AllBare s'.gens) s₁:=by
  intro H hO hS hok hA hK
  have base_of:∀{b:Addr}{o:Obj},s₁.heap.get? b=some o->H b=none->(hidT s₁.heap H).get? b=some o:=λe n=>jnp e n
  have noA:∀{b:Addr}{o:Obj}{es:Array DictEntry}{ep:Nat},s₁.heap.get? b=some o->o.data=.dict es ep->H b=none:=fun{b o es ep} e d=>by
   cases q:H b with
   |none=>rfl
   |some u =>
    have e':b=a:=hA b (by rw[q];simp)
    subst e'
    rw[ha]at e;cases e
    have d':Data.seq vs.toArray _=Data.dict es ep:=d
    cases d'
  have nsK:∀{b:Addr}{m:Str->Option Value},s₁.heap.Ns b m->(hidT s₁.heap H).Ns b m:=fun{b m} ⟨o,es,ep,e,d,r⟩=>⟨o,es,ep,base_of e (noA e d),d,r⟩
  have hKb:K.In (hidT s₁.heap H):=λb o e=>base_of (KX b o e) (by
   cases q:H b with
   |none=>rfl
   |some u =>
    have e':b=a:=hA b (by rw[q];simp)
    subst e'
    rw[hK (by rw[q];simp)]at e;cases e)
  have hM:Mod K mg (hidT s₁.heap H):=⟨hKb,nsK hns,⟨mb,nsK hb,hbb⟩,let⟨mc,h1,h2⟩:=hlim;⟨mc,nsK h1,h2⟩⟩
  have e0:Env0 P w K mg (hidT s₁.heap H) callerA [] s₁ H:=⟨rfl,hM,λb o e=>jo3 e,Nat.le_of_eq (jmf _ _),trivial,λb hb=>absurd (show b∈([]:List Addr)from hb) (by simp),hok,.of_eq hg⟩
  refine Wk ((F _ hKb (nsK hns)).run callerA [] s₁ H ⟨[.ref a],[]⟩ [.ref a] [.ref a] _ _ hr e0 (hbind s₁ (.ref a)) (.cons rfl .nil) (hsp H hO hS)) λr s' h=>?_
  cases r with
  |error e=>exact(hCX H e s' h).elim
  |ok fl =>
   cases fl with
   |next=>exact False.elim h
   |brk=>exact False.elim h
   |cont=>exact False.elim h
   |ret u =>
    obtain⟨v,H',os,bare,un,hok',r',q⟩:=h
    have q':v=.bl true:=q
    subst q'
    obtain rfl:u=Value.bool true:=r'
    refine⟨rfl,OldK.of_keep λb o e=>?_,os,bare⟩
    cases q:H b with
    |none=>exact un.keep b o e q (by intro z;exact absurd (show b∈([]:List Addr)from z) (by simp)) (by simp)
    |some u =>
     rcases hO b with z|⟨ob,xs,z⟩
     ·rw[q]at z;cases z
     ·have z2:=un.frzs b ob _ z
      obtain⟨e1,_⟩:=hok b _ z
      obtain⟨e2,_⟩:=hok' b _ z2
      rw[e]at e1;cases e1
      exact e2
 cases hk:K.lookup a with
 |some o =>
  have e:=KX a o hk
  rw[ha]at e
  cases e
  refine core (λ_=>none) (λ_=>.inl rfl) (.inr ⟨_,vs.toArray,_,hk,rfl,rfl,rfl,by rw[Aj,lenV];exact hl,by simpa using rv⟩) (λb u z=>by have z':(none:Option HO)=some u:=z;cases z') (λb z=>absurd rfl z) λz=>absurd rfl z
 |none =>
  refine core (λb=>if b=a then some (.frz {cls:=.type "list",data:=.seq vs.toArray} (.lst (ns.map V.int)))else none) (λb=>?_) (.inl (.inr ⟨{cls:=.type "list",data:=.seq vs.toArray},Ap rfl⟩)) (λb u z=>?_) (λb z=>?_) λ_=>hk
  ·by_cases hb:b=a
   ·exact .inr ⟨_,_,Ap hb⟩
   ·exact .inl (At hb)
  ·by_cases hb:b=a
   ·have z':=(Ap hb).symm.trans z
    cases z'
    subst hb
    exact⟨ha,by rw[Ad];exact hl,vs,_,rv,ha⟩
   ·have z':=(At hb).symm.trans z
    cases z'
  ·by_cases hb:b=a
   ·exact hb
   ·exact absurd (At hb) z
theorem walk_of{l:PySem.W.OpenLaw}{n k:Nat}{q:Program}{loose:List Str}{XP:(Str->Option Value)->Heap->Prop}{YP:World->Heap->Prop}{d:DefRec}{K:Params->PySem.W.Frag}{CX:World->CXT}{sp:World->Sp}{x:Str}
  (hn:l.most=some n) (hn2:n<=sizeLine) (hdf:d.params.defaults=[]) (hr:Room k callerA)
  (hY:∀(w:World)(h:Heap),YP w h->(K w.params).In h)
  (F:∀(w:World)(mg:Str->Option Value)(fa:Addr)(h:Heap),(K w.params).In h->h.Ns mainGlobals mg->mg d.name=some (.ref fa) ->
   ∃fd:FuncData,(∀(s:Shared)(u:Value),BindsTo s fd ⟨[u],[]⟩ [(x,u)]) /\
    ∀base:Heap,(K w.params).In base->base.Ns mainGlobals mg->FnOk l.prog w (K w.params) mg base (CX w) k fa fd [x] (sp w))
  (hsp:∀(w:World)(H:Hp)(a:Addr)(ns:List Int),ns.length<=n->Only H->SqL (K w.params) H a (ns.map V.int)->sp w [.ref a] H (λv _=>v=.bl true) λ_ _ _=>False)
  (hCX:∀(w:World)(H:Hp)(s:Shared)(e:Value)(s':Shared),CX w [] H s (λ_ _ _=>False) e s'->False) :
  PySem.W.WalkO q loose XP YP l.row.toRowW d [] (λf vs=>PySem.call f vs):=by
 refine Att.attach_call hn hdf λw s₀ s₁ mg mb fa o pm cd doc a vs ns G Y ho hd hcd hmg hobj hints hlen hg=>?_
 have KX:=hY w _ Y
 obtain⟨fd,hb,hF⟩:=F w mg fa _ KX G.T.g hmg
 exact jnt KX G.T.g G.T.b G.T.builtins G.T.nolimit hg hobj hints (Io hlen hn2) hr hF hb (λH hO hS=>hsp w H a ns hlen hO hS) λH e s'=>hCX w H s₁ e s'
def jx(s:Stmt):Arguments:=match s with
 |.FunctionDef _ a _ _ _ _ _ _ _ _=>a
 |_=>{posonlyargs:=[],args:=[],vararg:=none,kwonlyargs:=[],kw_defaults:=[],kwarg:=none,defaults:=[]}
def jw(s:Stmt):List Stmt:=match s with
 |.FunctionDef _ _ b _ _ _ _ _ _ _=>b
 |_=>[]
def jh(s:Stmt):Scope:=match s with
 |.FunctionDef _ _ _ _ _ _ sc _ _ _=>sc
 |_=>{kind:=.function,names:=[],isGenerator:=false,isCoroutine:=false}
abbrev CX0:CXT:=λ_ _ _ _ _ _=>False
abbrev E0:XK:=λ_ _ _=>False
theorem jo{X:Cx}:jdc CX0 X E0:=λ_ _ _ _ _ _ _ h=>h.elim
structure Fun(K:PySem.W.Frag)(x qual:Str)(st:Stmt)(f:Addr)(fd:FuncData):Prop where
 ex:∃(oc:Value)(od:Option Addr)(kV doc pm:Value)(an:Option Addr)(cdv ct:Value)(osl:Array (Option Value)),
  fd=PySem.W.fnOf x qual (jx st) (jw st) (jh st) .none kV doc pm an cdv ct/\K.lookup f=some ⟨oc,od,.func fd,osl⟩/\PySem.W.codeIn K cdv qual=true
 kp:PySem.W.keepIn K (.ref f)=true
section
variable{P:Program}{w:World}{K:PySem.W.Frag}{mg:Str->Option Value}{base:Heap}
theorem Fun.ok{x qual:Str}{st:Stmt}{f:Addr}{fd:FuncData}{N ps:List Str}{k:Nat}{sp:Sp}(F:Fun K x qual st f fd)(S:FnScope N ps (jh st))(len:∀vs H Q E,sp vs H Q E->vs.length=ps.length)
  (hbody:∀(cdv:Value)(A:Around)(outer:List Env)(s:Shared)(H:Hp)(vs:List V)(Q:VK)(E:XK),Room k (A.deeper (envOfC qual (jh st) s.heap.objs.size f cdv))->sp vs H Q E ->
   ∃t,PSs (cxOf CX0 P w K mg base N qual (jh st) f cdv A outer s H E).nox (jw st) t/\t {nx:=λ_ H'=>Q .non H',rt:=Q} (start N vs) H):FnOk P w K mg base CX0 (k+1) f fd ps sp:=by
 obtain⟨oc,od,kV,doc,pm,an,cdv,ct,osl,rfl,lk,hcd⟩:=F.ex
 refine jqf lk hcd S len λA outer s H vs Q E hr hsp=>?_
 obtain⟨t,h,q⟩:=hbody cdv A outer s H vs Q E hr hsp
 exact⟨t,h.nox,q⟩
theorem Fun.binds{x qual:Str}{st:Stmt}{f:Addr}{fd:FuncData}{ps:List Str}(F:Fun K x qual st f fd)
  (h:∀(kV doc pm:Value)(an:Option Addr)(cdv ct:Value)(us:List Value),us.length=ps.length->bindArgs (PySem.W.fnOf x qual (jx st) (jw st) (jh st) .none kV doc pm an cdv ct) ⟨us,[]⟩=pure (ps.zip us)):Binds K fd ps []:=by
 obtain⟨oc,od,kV,doc,pm,an,cdv,ct,osl,rfl,lk,hcd⟩:=F.ex
 exact .all (h kV doc pm an cdv ct)
theorem jcj{x qual:Str}{st:Stmt}{f:Addr}{oc:Value}{od an:Option Addr}{osl:Array (Option Value)}{kV doc pm cdv ct:Value}(l:K.lookup f=some ⟨oc,od,.func (PySem.W.fnOf x qual (jx st) (jw st) (jh st) .none kV doc pm an cdv ct),osl⟩)
  (c:PySem.W.codeIn K cdv qual=true) (k:PySem.W.keepIn K (.ref f)=true):Fun K x qual st f (PySem.W.fnOf x qual (jx st) (jw st) (jh st) .none kV doc pm an cdv ct):=⟨⟨oc,od,kV,doc,pm,an,cdv,ct,osl,rfl,l,c⟩,k⟩
end
section
variable{X:Cx}
theorem pv(i:Nat){x:Str}{pos:Pos}(hN:X.N[i]?=some x:=by rfl)(hv:Vis X.env.scope x:=by first|exact Or.inl rfl|exact Or.inr (Or.inl rfl)|exact Or.inr (Or.inr rfl))(hd:(x == ("__debug__":Str))=false:=by decide)
  (hcd:(x == ("__classdict__":Str))=false:=by decide):PE X (.Name x pos) (tVar i):=pe_var hN hv hd hcd
end
theorem ite2{c A B:Prop}[Decidable c](h1:c->A)(h2:¬c->B):if c then A else B:=by
 by_cases h:c
 ·rw[Ap h]
  exact h1 h
 ·rw[At h]
  exact h2 h
section
variable{κ:Type}[DecidableEq κ]
def valV(kvs:List (κ×V))(k:κ):Option V:=(kvs.find? λkv=>decide (kv.1=k)).map (·.2)
def putK(kvs:List (κ×V))(k:κ)(v:V):List (κ×V) :=
 if(kvs.any λkv=>decide (kv.1=k))=true then kvs.map (λkv=>if kv.1=k then(kv.1,v)else kv)else kvs++[(k,v)]
theorem jc0{p:κ×V}{r:List (κ×V)}{k:κ}(e:p.1=k):valV (p::r) k=some p.2:=by simp[valV,List.find?_cons,e]
theorem jcz{p:κ×V}{r:List (κ×V)}{k:κ}(e:¬p.1=k):valV (p::r) k=valV r k:=by simp[valV,List.find?_cons,e]
theorem jdu(k:κ):∀kvs:List (κ×V),(kvs.any λkv=>decide (kv.1=k))=(valV kvs k).isSome
 |[]=>rfl
 |p::r=>by
  rw[List.any_cons]
  by_cases e:p.1=k
  ·simp only[jc0 e,Ol e,Bool.true_or,Option.isSome_some]
  ·rw[jcz e,Ir e,Bool.false_or];exact jdu k r
theorem jjo(k j:κ)(y:V):∀kvs:List (κ×V),valV (kvs.map λkv=>if kv.1=k then(kv.1,y)else kv) j=(valV kvs j).map λx=>if j=k then y else x
 |[]=>rfl
 |p::r=>by
  have ih:=jjo k j y r
  rw[A9]
  by_cases h:p.1=k
  ·rw[Ap h]
   by_cases e:p.1=j
   ·rw[jc0 (p:=(p.1,y)) e,jc0 e,Option.map_some,Ap (e.symm.trans h)]
   ·rw[jcz (p:=(p.1,y)) e,jcz e,ih]
  ·rw[At h]
   by_cases e:p.1=j
   ·rw[jc0 (p:=p) e,jc0 e,Option.map_some,At (λz=>h (e.trans z))]
   ·rw[jcz (p:=p) e,jcz e,ih]
theorem jhk(k j:κ)(y:V):∀kvs:List (κ×V),valV kvs k=none->valV (kvs++[(k,y)]) j=if j=k then some y else valV kvs j
 |[],_=>by
  by_cases e:k=j
  ·rw[Ap e.symm];exact jc0 (p:=(k,y)) e
  ·rw[At (λz=>e z.symm)];exact jcz (p:=(k,y)) e
 |p::r,hn=>by
  rw[List.cons_append]
  have hk:¬p.1=k:=λz=>by rw[jc0 z]at hn;cases hn
  rw[jcz hk]at hn
  have ih:=jhk k j y r hn
  by_cases e:p.1=j
  ·rw[jc0 e,jc0 e,At (λz=>hk (e.trans z))]
  ·rw[jcz e,jcz e,ih]
theorem jjp(kvs:List (κ×V))(k j:κ)(y:V):valV (putK kvs k y) j=if j=k then some y else valV kvs j:=by
 unfold putK
 by_cases a:(kvs.any λkv=>decide (kv.1=k))=true
 ·rw[Ap a,jjo]
  rw[jdu]at a
  by_cases e:j=k
  ·obtain⟨x,hx⟩:=Um.mp a
   rw[Ap e,e,hx,Option.map_some,Ap rfl]
  ·rw[At e]
   cases valV kvs j with
   |none=>rfl
   |some x=>rw[Option.map_some,At e]
 ·rw[At a]
  refine jhk k j y kvs ?_
  rw[jdu]at a
  cases q:valV kvs k with
  |none=>rfl
  |some x=>rw[q]at a;exact(a rfl).elim
theorem jdh(kvs:List (κ×V))(k:κ)(v:V):(putK kvs k v).length<=kvs.length+1:=by
 unfold putK
 split
 ·rw[Ad];omega
 ·rw[Aw,List.length_cons,List.length_nil];omega
theorem RelO.isSome_eq{o:Option V}{u:Option Value}(r:RelO o u):o.isSome=u.isSome:=by
 cases o with
 |none=>cases u with
  |none=>rfl
  |some _=>exact(show False from r).elim
 |some _=>cases u with
  |none=>exact(show False from r).elim
  |some _=>rfl
theorem KV.val{kvs:List (κ×V)}{vs:List (κ×Value)}(r:KV kvs vs)(k:κ):RelO (valV kvs k) (valueAt vs k):=by
 unfold KV at r
 induction r with
 |nil=>exact True.intro
 |@cons p q ps qs h t ih =>
  obtain⟨h1,h2⟩:=h
  by_cases e:p.1=k
  ·have e':q.1=k:=h1.symm.trans e
   have b:valueAt (q::qs) k=some q.2:=by simp[valueAt,List.find?_cons,e']
   rw[jc0 e,b];exact h2
  ·have e':¬q.1=k:=λz=>e (h1.trans z)
   have b:valueAt (q::qs) k=valueAt qs k:=by simp[valueAt,List.find?_cons,e']
   rw[jcz e,b];exact ih
theorem KV.any{kvs:List (κ×V)}{vs:List (κ×Value)}(r:KV kvs vs)(k:κ):(kvs.any λkv=>decide (kv.1=k))=vs.any λkv=>decide (kv.1=k):=by
 unfold KV at r
 induction r with
 |nil=>rfl
 |cons h t ih=>rw[List.any_cons,List.any_cons,ih,h.1]
theorem KV.repl{kvs:List (κ×V)}{vs:List (κ×Value)}(r:KV kvs vs)(k:κ){y:V}{u:Value}(ry:RelV y u) :
  KV (kvs.map λkv=>if kv.1=k then(kv.1,y)else kv) (vs.map λkv=>if kv.1=k then(kv.1,u)else kv):=by
 unfold KV at r⊢
 induction r with
 |nil=>exact .nil
 |@cons p q ps qs h t ih =>
  rw[A9,A9]
  refine .cons ?_ ih
  obtain⟨h1,h2⟩:=h
  by_cases e:p.1=k
  ·rw[Ap e,Ap (h1.symm.trans e)];exact⟨h1,ry⟩
  ·rw[At e,At (λz=>e (h1.trans z))];exact⟨h1,h2⟩
theorem KV.put{kvs:List (κ×V)}{vs:List (κ×Value)}(r:KV kvs vs)(k:κ){y:V}{u:Value}(ry:RelV y u):KV (putK kvs k y) (stored vs k u):=by
 unfold putK stored
 rw[r.any k]
 by_cases e:(vs.any λkv=>decide (kv.1=k))=true
 ·rw[Ap e,Ap e];exact r.repl k ry
 ·rw[At e,At e];exact O9 r ⟨rfl,ry⟩
theorem KV.length{kvs:List (κ×V)}{vs:List (κ×Value)}(r:KV kvs vs):kvs.length=vs.length:=Au r
end
theorem jft{P:Program}{w:World}{k:Key}{u:Value}(r:RelV (kV k) u):(jck P w).is k u=true:=by
 cases k with
 |inl i=>obtain⟨t,e⟩:=(show ∃t,u=Value.int i t from r);subst e;exact jjv P w i t
 |inr x=>obtain⟨t,e⟩:=(show ∃t,u=Value.str x t from r);subst e;exact jjw P w x t
theorem jeh{P:Program}{w:World}:∀{ks:List Key}{us:List Value},Vals (ks.map kV) us->ItemsAre (jck P w) ks us
 |[],_,r=>by rw[Ww]at r;cases r;exact .nil
 |k::ks,_,r=>by
  rw[A9]at r
  cases r with
  |cons h t=>exact .cons (jft h) (jeh t)
abbrev KT(H:Hp):List (List Key×V)->List (List Key×Addr×Value)->Prop:=Paired λp q=>p.1=q.1/\H q.2.1=some (.tup (p.1.map kV))/\RelV p.2 q.2.2
theorem KT.val{H:Hp}{kvs:List (List Key×V)}{xs:List (List Key×Addr×Value)}(r:KT H kvs xs)(k:List Key):RelO (valV kvs k) ((atKey xs k).map (·.2)):=by
 induction r with
 |nil=>exact True.intro
 |@cons p q ps qs h t ih =>
  obtain⟨h1,_,h2⟩:=h
  by_cases e:p.1=k
  ·have e':q.1=k:=h1.symm.trans e
   have b:atKey (q::qs) k=some q.2:=by simp[atKey,List.find?_cons,e']
   rw[jc0 e,b];exact h2
  ·have e':¬q.1=k:=λz=>e (h1.trans z)
   have b:atKey (q::qs) k=atKey qs k:=by simp[atKey,List.find?_cons,e']
   rw[jcz e,b];exact ih
theorem KT.repl{H:Hp}{kvs:List (List Key×V)}{xs:List (List Key×Addr×Value)}(r:KT H kvs xs)(k:List Key){y:V}{u:Value}(ry:RelV y u) :
  KT H (kvs.map λkv=>if kv.1=k then(kv.1,y)else kv) (xs.map (putAt k u)):=by
 induction r with
 |nil=>exact .nil
 |@cons p q ps qs h t ih =>
  rw[A9,A9]
  refine .cons ?_ ih
  obtain⟨h1,h2,h3⟩:=h
  unfold putAt
  by_cases e:p.1=k
  ·rw[Ap e,Ap (h1.symm.trans e)];exact⟨h1,h2,ry⟩
  ·rw[At e,At (λz=>e (h1.trans z))];exact⟨h1,h2,h3⟩
theorem KT.put{H:Hp}{kvs:List (List Key×V)}{xs:List (List Key×Addr×Value)}(r:KT H kvs xs)(k:List Key){b:Addr}{y:V}{u:Value}(hb:H b=some (.tup (k.map kV)))(ry:RelV y u) :
  KT H (putK kvs k y) (storedH xs k b u):=by
 have e:(kvs.any λkv=>decide (kv.1=k))=(atKey xs k).isSome:=by
  rw[jdu,(r.val k).isSome_eq,Option.isSome_map]
 unfold putK storedH
 rw[e]
 by_cases q:(atKey xs k).isSome=true
 ·rw[Ap q,Ap q];exact r.repl k ry
 ·rw[At q,At q];exact O9 r ⟨rfl,hb,ry⟩
theorem KT.keeps{H H':Hp}{kvs:List (List Key×V)}{xs:List (List Key×Addr×Value)}(r:KT H kvs xs)(ht:∀b ys,H b=some (.tup ys)->H' b=some (.tup ys)):KT H' kvs xs :=
 Paired.mapP r λ_ _ z=>⟨z.1,ht _ _ z.2.1,z.2.2⟩
section
variable{P:Program}{w:World}{H:Hp}{h:Heap}{a:Addr}
theorem jol{u:HO}(ok:HOk P w H h)(e:Rd H a u):ObjOk P w H h a u:=e.ok ok
theorem jfn{kvs:List (Key×V)}(ok:HOk P w H h)(e:Rd H a (.dK kvs)):kvs.length<=sizeLine/\(a == sysModules)=false/\∃vs,KV kvs vs/\h.DictOf (jck P w) a vs :=
 show ObjOk P w H h a (.dK kvs)from jol ok e
theorem jfm{kvs:List (Key×V)}(ok:HOk P w H h)(e:H a=some (.dK kvs)):kvs.length<=sizeLine/\(a == sysModules)=false/\∃vs,KV kvs vs/\h.DictOf (jck P w) a vs:=jfn ok (.inl e)
theorem jio{ks:List Key}(ok:HOk P w H h)(e:H a=some (.tup (ks.map kV))):(tupleKind (jck P w)).is h ks a:=by
 obtain⟨_,its,r,o,h1,h2,n,h3⟩:=(show ObjOk P w H h a (.tup (ks.map kV))from ok a _ e)
 exact⟨o,its.toArray,n,h1,h2,h3,by simpa using jeh r⟩
theorem jhp{kvs:List (List Key×V)}(ok:HOk P w H h)(e:Rd H a (.dT kvs)):kvs.length<=sizeLine/\(a == sysModules)=false /\
  ∃xs,KT H kvs xs/\h.DictOfH (tupleKind (jck P w)) a xs:=by
 obtain⟨z,y,xs,r,o,es,ep,h1,h2,h3,h4,h5⟩:=(show ObjOk P w H h a (.dT kvs)from jol ok e)
 refine⟨z,y,xs,r,o,es,ep,h1,h2,h3,h4,λx hx=>?_,h5⟩
 have all:∀{l:List (List Key×V)}{m:List (List Key×Addr×Value)},KT H l m->∀x∈m,(tupleKind (jck P w)).is h x.1 x.2.1:=by
  intro l m q
  induction q with
  |nil=>intro x hx;exact nomatch hx
  |@cons p q ps qs hq t ih =>
   intro x hx
   rcases Ar.mp hx with e|hx
   ·subst e
    exact jio ok (by rw[<-hq.1];exact hq.2.1)
   ·exact ih x hx
 exact all r x hx
theorem jqe{kvs:List (List Key×V)}(ok:HOk P w H h)(e:H a=some (.dT kvs)):kvs.length<=sizeLine/\(a == sysModules)=false /\
  ∃xs,KT H kvs xs/\h.DictOfH (tupleKind (jck P w)) a xs:=jhp ok (.inl e)
end
def DGet(H:Hp)(a:Addr)(y:V)(r:Option V):Prop :=
 (∃kvs k,Rd H a (.dK kvs)/\y=kV k/\r=valV kvs k)\/∃kvs k b,Rd H a (.dT kvs)/\y=.ref b/\H b=some (.tup (k.map kV))/\r=valV kvs k
def DPut(H:Hp)(a:Addr)(y v:V)(H':Hp):Prop :=
 (∃kvs k,H a=some (.dK kvs)/\y=kV k/\kvs.length<sizeLine/\H'=upd H a (.dK (putK kvs k v))) \/
 ∃kvs k b,H a=some (.dT kvs)/\y=.ref b/\H b=some (.tup (k.map kV))/\kvs.length<sizeLine/\H'=upd H a (.dT (putK kvs k v))
theorem DGet.k{H:Hp}{a:Addr}{kvs:List (Key×V)}{k:Key}(e:H a=some (.dK kvs)):DGet H a (kV k) (valV kvs k):=.inl ⟨kvs,k,.inl e,rfl,rfl⟩
theorem DPut.k{H:Hp}{a:Addr}{kvs:List (Key×V)}{k:Key}{v:V}(e:H a=some (.dK kvs))(hl:kvs.length<sizeLine):DPut H a (kV k) v (upd H a (.dK (putK kvs k v))):=.inl ⟨kvs,k,e,rfl,hl,rfl⟩
section
variable{X:Cx}{pins:List (Addr×Obj)}{σ:St}{H:Hp}{s:Shared}{a:Addr}{y v:V}{u r:Value}{o:Option V}{A:Around}{E:Value->Shared->Prop}
theorem Inv.big(I:Inv X pins σ H s):sysModules<s.heap.objs.size:=by
 have h:mainGlobals<s.heap.objs.size:=(I.mod.glob.keeps I.bk).lt
 exact Nat.lt_trans (by decide) h
theorem jl5{Q:Value->Shared->Prop}(hu:A.units+1<cLine)(I:Inv X pins σ H s)(g:DGet H a y (some v))(ry:RelV y u)(h:∀w' s',Inv X pins σ H s'->RelV v w'->Q w' s') :
  wpAny (model X.prog X.w) A (getItem (.ref a) u) Q E s:=by
 rcases g with⟨kvs,k,e,ey,l⟩|⟨kvs,k,b,e,ey,eb,l⟩
 ·subst ey
  obtain⟨z,hd,vs,rel,dd⟩:=jfn I.hok e
  obtain⟨w',hw,rw'⟩:=RelO.some_of (v:=v) (o:=valueAt vs k) (by rw[l];exact rel.val k)
  exact wpAny_getItem_of (jft ry) dd.mapOf hw (h w' _ (I.tok _) rw')
 ·subst ey
  cases(show u=Value.ref b from ry)
  obtain⟨z,hd,xs,rel,dd⟩:=jhp I.hok e
  obtain⟨w',hw,rw'⟩:=RelO.some_of (v:=v) (o:=(atKey xs k).map (·.2)) (by rw[l];exact rel.val k)
  obtain⟨p,hp,hp2⟩:=Ut.mp hw
  refine wpAny_getItem_heap (tupleKind_room_in1 hu) (jio I.hok eb) dd hp ?_
  rw[hp2]
  exact h w' _ (I.tok _) rw'
theorem jeq{h':Heap}{t':Nat}{ob:HO}(I:Inv X pins σ H s)(mu:Mut (H a))(hs:Heap.SameBut a s.heap h')(he:∃q,h'.get? a=some q)(new:ObjOk X.prog X.w (upd H a ob) h' a ob) :
  Inv X pins σ (upd H a ob) {s with heap:=h',toks:=t'} :=
 I.write (x:=a) (e:=a) mu (.inl rfl) (λb q hb z=>(hs.2 b hb).trans z) he new
theorem jfl{P:Program}{w:World}{H':Hp}{h':Heap}{kvs:List (Key×V)}{vs:List (Key×Value)}(z:kvs.length<=sizeLine)(hd:(a == sysModules)=false)(rel:KV kvs vs)(dd:h'.DictOf (jck P w) a vs) :
  ObjOk P w H' h' a (.dK kvs):=⟨z,hd,vs,rel,dd⟩
theorem jl6{H':Hp}{Q:Unit->Shared->Prop}(hu:A.units+1<cLine)(I:Inv X pins σ H s)(g:DPut H a y v H')(ry:RelV y u)(rv:RelV v r)(h:∀s',Inv X pins σ H' s'->Q () s') :
  wpAny (model X.prog X.w) A (setItem (.ref a) u r) Q E s:=by
 rcases g with⟨kvs,k,e,ey,l,eH⟩|⟨kvs,k,b,e,ey,eb,l,eH⟩
 ·subst ey eH
  obtain⟨z,hd,vs,rel,dd⟩:=jfm I.hok e
  have hz:vs.length<=sizeLine:=by rw[<-rel.length];exact z
  have hl:(putK kvs k v).length<=sizeLine:=by have:=jdh kvs k v;omega
  refine wpAny_setItem_pairs (hsz:=hz) (jft ry) dd λh' dd' hs=>h _ ?_
  have he:∃q,h'.get? a=some q:=let⟨q,_,_,hq,_⟩:=dd';⟨q,hq⟩
  exact jeq I (by rw[e];exact True.intro) hs he (jfl hl hd (rel.put k rv) dd')
 ·subst ey eH
  cases(show u=Value.ref b from ry)
  obtain⟨z,hd,xs,rel,dd⟩:=jqe I.hok e
  have hz:xs.length<=sizeLine:=by rw[<-Au rel];exact z
  have hl:(putK kvs k v).length<=sizeLine:=by have:=jdh kvs k v;omega
  refine wpAny_setItem_heap (hsz:=hz) (tupleKind_room_in1 hu) (jio I.hok eb) dd λh' dd' hs=>h _ ?_
  obtain⟨q,es,ep,hq,h2,h3,h4,_,h5⟩:=dd'
  refine jeq I (by rw[e];exact True.intro) hs ⟨q,hq⟩ ⟨hl,hd,_,(rel.put k eb rv).keeps λc ys ec=>?_,q,es,ep,hq,h2,h3,h4,h5⟩
  rw[jd (jhv ec e (λz=>nomatch z))]
  exact ec
end
def NoSl(i:Expr):Prop:=∀ov iv,subscripted i false ov iv=operate [ov,iv] (getItem ov iv)
theorem jkq{prog:Program}{w:World}{A:Around}{E:Value->Shared->Prop}{s:Shared}{env:Env}{value slice:Expr}{pos:Pos}{T id:String}{Q:Value->Shared->Prop}
  (hl:typeLookup (.type T) "__getitem__"=pure (some (.builtin id))) (hs:NoSl slice)
  (h:wpAny (model prog w) A (eval value env) (λo s₁=>wpAny (model prog w) A (eval slice env) (λi s₂=>s₂.TypeIs o T/\wpAny (model prog w) A (getItem o i) Q E s₂) E s₁) E s) :
  wpAny (model prog w) A (eval (.Subscript value slice pos) env) Q E s:=by
 refine Subscript_ (Ox h (λo s₁ h₁=>Ox h₁ (λi s₂ h₂=>?_) λ_ _ x=>x) λ_ _ x=>x)
 obtain⟨hT,h₂⟩:=h₂
 unfold subscriptTail
 refine Aa ?_
 rw[getitemInPython_of_ne hT.not_modules]
 refine Aa (wpAny_specialOf hT hl ?_)
 have fin:wpAny (model prog w) A (subscripted slice false o i) (λr s₃=>wpAny (model prog w) A (letTemporaryGo value o r >>= λ_=>pure r) Q E s₃) E s₂:=by
  rw[hs o i]
  exact wpAny_operating (Ox h₂ (λr s₃ h₃=>Aa (wpAny_letTemporaryGo (Ab h₃))) λ_ _ x=>x)
 first
  |exact Ab (Aa fin)
  |exact Aa (Ab (Aa fin))
  |exact Aa fin
theorem jjs{X:Cx}{pins:List (Addr×Obj)}{σ:St}{H:Hp}{s:Shared}{a:Addr}{y:V}{o:Option V}(I:Inv X pins σ H s)(g:DGet H a y o):s.TypeIs (.ref a) "dict":=by
 rcases g with⟨kvs,k,e,_,_⟩|⟨kvs,k,b,e,_,_,_⟩
 ·obtain⟨_,_,vs,_,dd⟩:=jfn I.hok e
  exact dd.typeIs
 ·obtain⟨_,_,xs,_,dd⟩:=jhp I.hok e
  exact dd.typeIs
def jh2(td ty:TE):TE:=λσ H Q=>td σ H λx H1=>ty σ H1 λy H2=>∃a v,x=.ref a/\DGet H2 a y (some v)/\Q v H2
def jhy(td ty tv:TE):TS:=λD σ H=>tv σ H λv H1=>td σ H1 λx H2=>ty σ H2 λy H3=>∃a H4,x=.ref a/\DPut H3 a y v H4/\D.nx σ H4
section
variable{X:Cx}{o i e value:Expr}{pos pos' tpos:Pos}{td ty tv:TE}
theorem pe_dget(hu:X.A.units+1<cLine)(ho:PE X o td)(hi:PE X i ty)(hs:NoSl i):PE X (.Subscript o i pos) (jh2 td ty):=by
 intro pins s σ H Q I h
 refine jkq PySem.F.slot_dict_getitem.lookup hs (thn (ho pins s σ H _ I h) λu s1 ⟨x,H1,I1,rx,q1⟩=>thn (hi pins s1 σ H1 _ I1 q1) λiv s2 ⟨y,H2,I2,ry,a,v,ex,g,q2⟩=>?_)
 subst ex
 obtain rfl:u=Value.ref a:=rx
 exact⟨jjs I2 g,jl5 hu I2 g ry λw' s3 I3 rw'=>⟨v,H2,I3,rw',q2⟩⟩
theorem ps_dput(hu:X.A.units+1<cLine)(ho:PE X o td)(hi:PE X i ty)(hv:PE X value tv)(hs:swapsWith value (some (.Subscript o i pos')) pos.line X.env=pure false) :
  PS X (.Assign [.Subscript o i pos'] value pos) (jhy td ty tv):=by
 intro pins s σ H D I h
 refine wpAny_Assign_Subscript (thn (hv pins s σ H _ I h) λr s1 ⟨v,H1,I1,rv,q1⟩=>thn (ho pins s1 σ H1 _ I1 q1) λu s2 ⟨x,H2,I2,rx,q2⟩=>thn (hi pins s2 σ H2 _ I2 q2) λiv s3 ⟨y,H3,I3,ry,a,H4,ex,g,q3⟩=>?_) hs
 subst ex
 obtain rfl:u=Value.ref a:=rx
 exact jl6 hu I3 g ry rv λs4 I4=>⟨σ,H4,I4,q3⟩
end
theorem jnk{P:Program}{w:World}{H:Hp}(h:Heap)(hb:sysModules<h.objs.size):ObjOk P w H (h.push {cls:=.type "dict",data:=.dict #[]}) h.objs.size (.dK []) :=
 ⟨Ou _,O5.mpr (Up (Ao hb)),[],.nil,Heap.DictOf.new h⟩
def jd3(kvs more:List (Key×V)):List (Key×V):=more.foldl (λacc kv=>putK acc kv.1 kv.2) kvs
theorem KV.merge:∀{more:List (Key×V)}{rs:List (Key×Value)}{kvs:List (Key×V)}{vs:List (Key×Value)},KV more rs->KV kvs vs->KV (jd3 kvs more) (merged vs rs):=by
 intro more rs kvs vs r
 unfold KV at r
 induction r generalizing kvs vs with
 |nil=>intro q;exact q
 |@cons p q ps qs h t ih =>
  intro r0
  have e:KV (putK kvs p.1 p.2) (stored vs q.1 q.2):=by
   have:=r0.put p.1 h.2
   rw[<-h.1];exact this
  exact ih e
theorem jeb:∀(more kvs:List (Key×V)),(jd3 kvs more).length<=kvs.length+more.length
 |[],kvs=>by show kvs.length<=kvs.length+0;omega
 |p::r,kvs=>by
  have h1:=jeb r (putK kvs p.1 p.2)
  have h2:=jdh kvs p.1 p.2
  show(jd3 (putK kvs p.1 p.2) r).length<=_
  rw[List.length_cons];omega
structure M1(X:Cx)(o:Expr)(m:Str)(apos:Pos)(e:Expr)(cpos:Pos):Prop where
 base:attributeBase o m X.env (eval o X.env)=eval o X.env
 few:((backTo cpos (starEach [e] X.env)).all (λx=>!x.1) && (backToKw cpos (keywordEach [] X.env)).all (λx=>x.1.isSome)
  && decide (([e]:List Expr).length+([]:List Keyword).length+(if([]:List Keyword).isEmpty then 0 else 1)<30))=true
 line:(apos.endLine == cpos.line)=true
 trees:backTo cpos (starEach [e] X.env)=[(false,eval e X.env)]
def IsD(H:Hp)(a:Addr):Prop:=(∃kvs,Rd H a (.dK kvs))\/∃kvs,Rd H a (.dT kvs)
theorem jpr{X:Cx}{pins:List (Addr×Obj)}{σ:St}{H:Hp}{s:Shared}{a:Addr}(I:Inv X pins σ H s)(d:IsD H a) :
  s.TypeIs (.ref a) "dict"/\(∀b,Value.ref a=.ref b->∃ob,s.heap.get? b=some ob/\ob.dict=none)/\(a == sysModules)=false:=by
 rcases d with⟨kvs,e⟩|⟨kvs,e⟩
 ·obtain⟨_,hd,vs,_,dd⟩:=jfn I.hok e
  refine⟨dd.typeIs,λb q=>?_,hd⟩
  cases q
  obtain⟨ob,_,_,h1,h2,_⟩:=dd
  exact⟨ob,h1,h2.2.1⟩
 ·obtain⟨_,hd,xs,_,dd⟩:=jhp I.hok e
  refine⟨dd.typeIs,λb q=>?_,hd⟩
  cases q
  obtain⟨ob,_,_,h1,h2,_⟩:=dd
  exact⟨ob,h1,h2.2.1⟩
section
variable{X:Cx}{pins:List (Addr×Obj)}{σ:St}{H:Hp}{s:Shared}{a:Addr}{kvs:List (Key×V)}{A:Around}{E:Value->Shared->Prop}
theorem jnj{Q:Value->Shared->Prop}(I:Inv X pins σ H s)(e:Rd H a (.dK kvs))(h:∀p s',H p=none->Inv X pins σ (upd H p (.dK kvs)) s'->Q (.ref p) s'):wpAny (model X.prog X.w) A (call (.type "dict") [.ref a]) Q E s:=by
 obtain⟨z,hd,vs,rel,dd⟩:=jfn I.hok e
 refine kt_call_dict hd dd (by rw[<-rel.length];exact z) λh' dd' hs=>?_
 refine h _ _ (I.hok.fresh (Af _)) (I.laid (a:=s.heap.objs.size) (o:=.dK kvs) (t':=s.toks) (λb q hq=>?_) (Af _) (jfl z (O5.mpr (Up (Ao I.big))) rel dd'))
 exact(hs.2 b (Ao (Al hq))).trans (Ac _ hq)
end
structure Kp(S:List Addr)(H H':Hp):Prop where
 old:∀a o,H a=some o->a∉S->H' a=some o
 tup:∀a xs,H a=some (.tup xs)->H' a=some (.tup xs)
 dom:∀a o,H a=some o->∃o',H' a=some o'
theorem Kp.refl(S:List Addr)(H:Hp):Kp S H H:=⟨λ_ _ e _=>e,λ_ _ e=>e,λ_ o e=>⟨o,e⟩⟩
theorem Kp.trans{S:List Addr}{H H1 H2:Hp}(a:Kp S H H1)(b:Kp S H1 H2):Kp S H H2 :=
 ⟨λc o e n=>b.old c o (a.old c o e n) n,λc xs e=>b.tup c xs (a.tup c xs e),λc o e=>let⟨o',e'⟩:=a.dom c o e;b.dom c o' e'⟩
theorem Kp.mono{S S':List Addr}{H H1:Hp}(a:Kp S H H1)(h:∀x∈S,x∈S'):Kp S' H H1:=⟨λc o e n=>a.old c o e λz=>n (h c z),a.tup,a.dom⟩
theorem Kp.free{S:List Addr}{H H1:Hp}(k:Kp S H H1){p:Addr}(h:H1 p=none):H p=none:=by
 cases e:H p with
 |none=>rfl
 |some o=>obtain⟨o',e'⟩:=k.dom p o e;rw[h]at e';cases e'
theorem Kp.new{S:List Addr}{H H1:Hp}(k:Kp S H H1){p:Addr}{o:HO}(h:H1 p=none):Kp S H (upd H1 p o) :=
 ⟨λc u e n=>by rw[jd (je (k.old c u e n) h)];exact k.old c u e n,λc xs e=>by rw[jd (je (k.tup c xs e) h)];exact k.tup c xs e,
  λc u e=>by
   obtain⟨o',e'⟩:=k.dom c u e
   exact⟨o',by rw[jd (je e' h)];exact e'⟩⟩
theorem Kp.set{S:List Addr}{H H1:Hp}(k:Kp S H H1){b:Addr}{xs:List V}{o:HO}(hb:H1 b=some (.lst xs))(h:b∈S\/H b=none):Kp S H (upd H1 b o) :=
 ⟨λc u e n=>by
  have:c≠b:=by
   rintro rfl
   rcases h with h|h
   ·exact n h
   ·rw[h]at e;cases e
  rw[jd this];exact k.old c u e n,
 λc ys e=>by
  have e1:=k.tup c ys e
  rw[jd (jhv e1 hb (by intro z;cases z))];exact e1,
 λc u e=>by
  obtain⟨o',e'⟩:=k.dom c u e
  by_cases q:c=b
  ·subst q;exact⟨o,jb⟩
  ·exact⟨o',by rw[jd q];exact e'⟩⟩
def jcu:Option HO->Option (List V)
 |some (.lst xs)=>some xs
 |_=>none
def jez:Option HO->Option (List V)
 |some (.tup xs)=>some xs
 |_=>none
def jc2:Option HO->Option (List V)
 |some (.lst xs)=>some xs
 |some (.tup xs)=>some xs
 |_=>none
theorem jgx(xs:List V):jcu (some (.lst xs))=some xs:=rfl
theorem jhj(xs:List V):jez (some (.tup xs))=some xs:=rfl
theorem jhf(xs:List V):jc2 (some (.lst xs))=some xs:=rfl
theorem jhg(xs:List V):jc2 (some (.tup xs))=some xs:=rfl
theorem jcy{o:Option HO}{xs:List V}(h:jcu o=some xs):o=some (.lst xs):=by
 unfold jcu at h
 split at h
 ·cases h;rfl
 ·cases h
theorem jfd{o:Option HO}{xs:List V}(h:jez o=some xs):o=some (.tup xs):=by
 unfold jez at h
 split at h
 ·cases h;rfl
 ·cases h
theorem jfc{o:Option HO}{xs:List V}(h:jc2 o=some xs):o=some (.lst xs)\/o=some (.tup xs):=by
 unfold jc2 at h
 split at h
 ·cases h;exact .inl rfl
 ·cases h;exact .inr rfl
 ·cases h
section
variable{X:Cx}
def rLtU:R2:=λx y H Q=>match x,y with
 |.int i,.int j=>Q (.bl (decide (i<j))) H
 |.str i,.str j=>Q (.bl (decide (i.cps.toList<j.cps.toList))) H
 |_,_=>False
theorem jab:OpR X (compareOp .Lt) rLtU:=by
 intro pins s σ H x y v u Q I rx ry h
 cases x with
 |int i=>cases y with
  |int j=>exact op_lt pins s σ H _ _ v u Q I rx ry ⟨i,j,rfl,rfl,h⟩
  |_=>exact False.elim h
 |str i=>cases y with
  |str j=>exact op_lt_str pins s σ H _ _ v u Q I rx ry ⟨i,j,rfl,rfl,h⟩
  |_=>exact False.elim h
 |_=>exact False.elim h
def rIxU:R2:=λx y H Q=>match x,y with
 |.str z,.int i=>z.length<=sizeLine/\∃c,atI z.cps.toList i=some c/\Q (.str ⟨#[c]⟩) H
 |.ref p,.int i=>∃xs,jc2 (H p)=some xs/\∃v,atI xs i=some v/\Q v H
 |_,_=>False
theorem ix_U:IxR X rIxU:=by
 intro value slice pins s σ H x y v u Q I rx ry h hs
 cases x with
 |str z=>cases y with
  |int i=>obtain⟨h1,c,h2,h3⟩:=h;exact ix_str value slice pins s σ H _ _ v u Q I rx ry ⟨z,i,c,rfl,rfl,h1,h2,h3⟩ hs
  |_=>exact False.elim h
 |ref p=>cases y with
  |int i =>
   obtain⟨xs,e,w,h2,h3⟩:=h
   rcases jfc e with e|e
   ·exact jbf value slice pins s σ H _ _ v u Q I rx ry ⟨p,xs,i,w,rfl,rfl,SqL.of e,h2,h3⟩ hs
   ·exact ix_tup value slice pins s σ H _ _ v u Q I rx ry ⟨p,xs,i,w,rfl,rfl,SqT.of e,h2,h3⟩ hs
  |_=>exact False.elim h
 |_=>exact False.elim h
theorem jkv{α:Type}(x:α)(r:List α):atI (x::r) 0=some x:=jcm (j:=0) rfl
theorem jkw{α:Type}(x y:α)(r:List α):atI (x::y::r) 1=some y:=jcm (j:=1) rfl
theorem jof{α:Type}(x y z:α)(r:List α):atI (x::y::z::r) 2=some z:=jcm (j:=2) rfl
theorem jcg{α:Type}{xs:List α}{i:Int}{v:α}(h0:0<=i)(h:xs[i.toNat]?=some v):atI xs i=some v:=by
 have:=jcm (xs:=xs) (j:=i.toNat) h
 rwa[Int.toNat_of_nonneg h0]at this
def jok:V->V->V->Hp->(Hp->Prop)->Prop:=λo i v H Q=>match o,i with
 |.ref p,.int k=>∃xs,jcu (H p)=some xs/\∃j,ixN xs.length k=some j/\Q (upd H p (.lst (xs.set j v)))
 |_,_=>False
theorem jli:PSet X jok:=by
 intro pins s σ H o i v ov iv u Q I ro ri rv h
 cases o with
 |ref p=>cases i with
  |int k =>
   obtain⟨xs,e,j,h1,h2⟩:=h
   exact jn5 pins s σ H _ _ v ov iv u Q I ro ri rv ⟨p,xs,k,j,rfl,rfl,jcy e,h1,h2⟩
  |_=>exact False.elim h
 |_=>exact False.elim h
def jhx:List V->Hp->VK->Prop:=λxs H Q=>match xs with
 |[.str z]=>z.length<=sizeLine/\Q (.int z.length) H
 |[.ref p]=>∃ys,jc2 (H p)=some ys/\Q (.int ys.length) H
 |_=>False
theorem j6:jct X (.builtin "len") jhx:=by
 intro pins s σ H xs us Q I r h
 unfold jhx at h
 split at h
 ·rename_i z;exact call_len_str pins s σ H _ us Q I r ⟨z,rfl,h⟩
 ·rename_i p
  obtain⟨ys,e,h⟩:=h
  rcases jfc e with e|e
  ·exact yw pins s σ H _ us Q I r ⟨p,ys,rfl,.inl (SqL.of e),h⟩
  ·exact yw pins s σ H _ us Q I r ⟨p,ys,rfl,.inr (SqT.of e),h⟩
 ·exact h.elim
def jhw:List V->Hp->VK->Prop:=λxs H Q=>match xs with
 |[.int i]=>Q (.int i) H
 |[.bl k]=>Q (.int (if k then 1 else 0)) H
 |_=>False
theorem call_intU:jct X (.type "int") jhw:=by
 intro pins s σ H xs us Q I r h
 unfold jhw at h
 split at h
 ·rename_i i;exact jbl pins s σ H _ us Q I r (.inl ⟨i,rfl,h⟩)
 ·rename_i k;exact jbl pins s σ H _ us Q I r (.inr ⟨k,rfl,h⟩)
 ·exact h.elim
def sgn(z:Str):List V:=z.cps.toList.map λc=>V.str ⟨#[c]⟩
theorem jo8(z:Str):(sgn z).length=z.length:=by simp[sgn,Str.length]
theorem joc{z:Str}{acc:Array Value}(h:ItemsOf (SignAt z) acc z.cps.size):Vals (sgn z) acc.toList:=by
 obtain⟨h1,h2⟩:=h
 have hl:(sgn z).length=acc.toList.length:=by simp[sgn,h1]
 have gen:∀(xs:List V)(us:List Value),xs.length=us.length->(∀(i:Nat)(x:V)(u:Value),xs[i]?=some x->us[i]?=some u->RelV x u)->Vals xs us:=by
  intro xs
  induction xs with
  |nil=>intro us hl _;cases us with
   |nil=>exact .nil
   |cons _ _=>simp at hl
  |cons x xs ih=>intro us hl h;cases us with
   |nil=>simp at hl
   |cons u us=>exact .cons (h 0 x u rfl rfl) (ih us (by simpa using hl) λi a b e1 e2=>h (i+1) a b (by simpa using e1) (by simpa using e2))
 refine gen _ _ hl λi x u e1 e2=>?_
 obtain⟨c,t,hc,hu⟩:=h2 i u (by simpa using e2)
 subst hu
 simp only[sgn,Ax]at e1
 have:z.cps.toList[i]?=some c:=by simpa using hc
 rw[this]at e1
 have e1':V.str ⟨#[c]⟩=x:=Av e1
 subst e1'
 exact⟨t,rfl⟩
def jfw:List V->Hp->VK->Prop:=λxs H Q=>match xs with
 |[.str z]=>z.length<=sizeLine/\∀l,H l=none->Q (.ref l) (upd H l (.lst (sgn z)))
 |[.ref p]=>∃ys,jc2 (H p)=some ys/\∀l,H l=none->Q (.ref l) (upd H l (.lst ys))
 |_=>False
theorem jah(hc:X.calm=true):jct X (.type "list") jfw:=by
 intro pins s σ H xs us Q I r h
 unfold jfw at h
 split at h
 ·rename_i z
  obtain⟨u,rfl,t,rfl⟩:=jc6 r
  obtain⟨hz,q⟩:=h
  refine call_list_str (I.ok.hd hc) z t (λh' tk acc c hk hn hi=>?_) hz
  have hf:=I.hok.fresh (Af s.heap.objs.size)
  refine⟨.ref s.heap.objs.size,upd H s.heap.objs.size (.lst (sgn z)),I.laid hk (Af _) ⟨by rw[jo8];exact hz,acc.toList,c,joc hi,by simpa using hn⟩,rfl,q _ hf⟩
 ·rename_i p
  obtain⟨ys,e,h⟩:=h
  rcases jfc e with e|e
  ·exact ja0 pins s σ H _ us Q I r ⟨p,ys,rfl,.inl (SqL.of e),h⟩
  ·exact ja0 pins s σ H _ us Q I r ⟨p,ys,rfl,.inr (SqT.of e),h⟩
 ·exact h.elim
def jlf:V->List V->Hp->VK->Prop:=λx vs H Q=>match x,vs with
 |.ref l,[.int i]=>∃xs,jcu (H l)=some xs/\0<=i/\∃y,xs[i.toNat]?=some y/\Q y (upd H l (.lst (xs.eraseIdx i.toNat)))
 |_,_=>False
theorem jb2:MtM X "list.pop" jlf:=by
 intro pins s σ H x vs v us Q I rx rv h
 unfold jlf at h
 split at h
 ·rename_i l i
  obtain⟨xs,e,h0,y,hy,q⟩:=h
  have e:=jcy e
  have hz:=(I.lstM e).1
  have hlt:i.toNat<xs.length:=(Ag.mp hy).1
  have hs:sizeLine=16777216:=W9
  refine mt_popAt pins s σ H _ _ v us Q I rx rv ⟨l,xs,i,i.toNat,y,rfl,rfl,e,by omega,by omega,?_,hy,q⟩
  exact seqIndex_of h0 (by omega)
 ·exact h.elim
def rIsU(K:PySem.W.Frag):List V->Hp->VK->Prop:=λxs H Q=>match xs with
 |[x,.ty c]=>∃t b,TyOf K H x t/\PySem.W.kitOne K t (.type c)=some b/\Q (.bl b) H
 |_=>False
theorem call_isinstanceU:jct X (.builtin "isinstance") (rIsU X.K):=by
 intro pins s σ H xs us Q I r h
 unfold rIsU at h
 split at h
 ·rename_i x c
  obtain⟨t,b,ty,e,q⟩:=h
  obtain⟨u,w',rfl,rx,rc⟩:=jia r
  cases rc
  exact jmh I rx ty e λtk=>⟨.bl b,H,I.tok tk,rfl,q⟩
 ·exact h.elim
def ItS(z:Str):It:=⟨λi _=>i<z.length,λi H x H'=>H'=H/\∃c,z.cps.toList[i]?=some c/\x=.str ⟨#[c]⟩,λi _=>z.length<=i⟩
theorem jm8{P:Program}{w:World}{K:PySem.W.Frag}{tg:Expr}(z:Str)(t:Tok)(it:Addr):Turn P w K tg (ItS z) [it] it (λi h=>h.IsStrIter it "str_ascii_iterator" z t i) where
 mem:=by simp
 obj:=λi h st b hb=>by
  have e:b=it:=by simpa using hb
  subst e
  obtain⟨o,e,c,d⟩:=st
  exact⟨o,e,λv z=>by rw[d]at z;cases z⟩
 keep:=λi h h' st k=>let⟨o,ho,r⟩:=st;⟨o,k it (by simp) o ho,r⟩
 item:=by
  intro X hP hw hK hc i pins s σ H E I hf st hg
  subst hP hw hK
  obtain⟨f0,f1,f2,f3,f4,f5⟩:=hf it (by simp)
  have hi:i<z.cps.size:=hg
  refine wpAny_pyNext_ascii_item st (c:=z.cps[i]) (by simp[hi]) λh' st' sb=>?_
  have I1:Inv X pins σ H {s with heap:=h',toks:=s.toks+1}:=I.turned (t':=s.toks+1) (λb o hb e=>(sb.2 b hb).trans e) f0 f1 f3 f4 f5
  obtain⟨o,e,c,d⟩:=id st'
  exact⟨_,rfl,jfp (s:={s with heap:=h',toks:=s.toks+1}) e c d (by decide) ⟨.str ⟨#[z.cps[i]]⟩,H,I1,⟨_,rfl⟩,⟨rfl,_,by simp[hi],rfl⟩,st',λb hb=>(hf b hb).1⟩⟩
 done:=by
  intro X hP hw hK hc i pins s σ H E I hf st hg
  subst hP hw hK
  obtain⟨f0,f1,f2,f3,f4,f5⟩:=hf it (by simp)
  have hi:z.cps.size<=i:=hg
  exact wpAny_pyNext_ascii_end (I.ok.hd hc) st (by simp[hi]) λh' eb=>⟨rfl,I.turned (t':=s.toks) (λb o hb e=>eb b o hb e) f0 f1 f3 f4 f5⟩
 self:=λ_ _ _ _ _ st h=>wpAny_pyIter_striter_ascii st h
theorem jm9{P:Program}{w:World}{K:PySem.W.Frag}{tg:Expr}(z:Str)(t:Tok)(it:Addr):Turn P w K tg (ItS z) [it] it (λi h=>h.IsStrIter it "str_iterator" z t i) where
 mem:=by simp
 obj:=λi h st b hb=>by
  have e:b=it:=by simpa using hb
  subst e
  obtain⟨o,e,c,d⟩:=st
  exact⟨o,e,λv z=>by rw[d]at z;cases z⟩
 keep:=λi h h' st k=>let⟨o,ho,r⟩:=st;⟨o,k it (by simp) o ho,r⟩
 item:=by
  intro X hP hw hK hc i pins s σ H E I hf st hg
  subst hP hw hK
  obtain⟨f0,f1,f2,f3,f4,f5⟩:=hf it (by simp)
  have hi:i<z.cps.size:=hg
  refine wpAny_pyNext_wide_item st (c:=z.cps[i]) (by simp[hi]) λh' st' sb=>?_
  have I1:Inv X pins σ H {s with heap:=h',toks:=s.toks+1}:=I.turned (t':=s.toks+1) (λb o hb e=>(sb.2 b hb).trans e) f0 f1 f3 f4 f5
  obtain⟨o,e,c,d⟩:=id st'
  exact⟨_,rfl,jfp (s:={s with heap:=h',toks:=s.toks+1}) e c d (by decide) ⟨.str ⟨#[z.cps[i]]⟩,H,I1,⟨_,rfl⟩,⟨rfl,_,by simp[hi],rfl⟩,st',λb hb=>(hf b hb).1⟩⟩
 done:=by
  intro X hP hw hK hc i pins s σ H E I hf st hg
  subst hP hw hK
  obtain⟨f0,f1,f2,f3,f4,f5⟩:=hf it (by simp)
  have hi:z.cps.size<=i:=hg
  exact wpAny_pyNext_wide_end (I.ok.hd hc) st (by simp[hi]) λh' eb=>⟨rfl,I.turned (t':=s.toks) (λb o hb e=>eb b o hb e) f0 f1 f3 f4 f5⟩
 self:=λ_ _ _ _ _ st h=>wpAny_pyIter_striter_wide st h
def iAny(K:PySem.W.Frag)(t:TE):TI:=λσ H R=>t σ H λx H1=>match x with
 |.str z=>R (ItS z) H1
 |.ref a=>match H1 a with
  |some (.lst _)=>R (Itl K a) H1
  |some (.tup _)=>R (Itt K a) H1
  |_=>False
 |_=>False
theorem pi_any{tg l:Expr}{tl:TE}(hl:PE X l tl):PI X tg l (iAny X.K tl):=by
 intro pins s σ H R I h
 refine thn (hl pins s σ H _ I h) λv s1 ⟨x,H1,I1,r1,q1⟩=>?_
 cases x with
 |str z =>
  obtain⟨t,rfl⟩:=r1
  have fr:∀b∈[s1.heap.objs.size],FpOk X pins H1 b:=λb hb=>by
   have e:b=s1.heap.objs.size:=by simpa using hb
   subst e
   exact I1.fpOk (Af _) (I1.hok.fresh (Af _))
  cases ha:z.cps.all (·<128)
  ·exact wpAny_pyIter_wide ha ⟨s1.heap.objs.size,[s1.heap.objs.size],_,_,H1,rfl,I1.kept (t':=s1.toks) λb o e=>Ac _ e,jm9 z t _,⟨_,Ai _ rfl,rfl,rfl⟩,fr,q1⟩
  ·exact wpAny_pyIter_ascii ha ⟨s1.heap.objs.size,[s1.heap.objs.size],_,_,H1,rfl,I1.kept (t':=s1.toks) λb o e=>Ac _ e,jm8 z t _,⟨_,Ai _ rfl,rfl,rfl⟩,fr,q1⟩
 |ref a =>
  cases r1
  have fr:∀b∈[s1.heap.objs.size],FpOk X pins H1 b:=λb hb=>by
   have e:b=s1.heap.objs.size:=by simpa using hb
   subst e
   exact I1.fpOk (Af _) (I1.hok.fresh (Af _))
  simp only at q1
  split at q1
  ·rename_i xs e
   obtain⟨its,rv,p,hz⟩:=I1.list (SqL.of e)
   exact O3 p.isList ⟨s1.heap.objs.size,[s1.heap.objs.size],_,_,H1,rfl,I1.kept (t':=s1.toks) λb o e=>Ac _ e,jm7 a _,⟨_,Ai _ rfl,rfl,rfl⟩,fr,q1⟩
  ·rename_i xs e
   obtain⟨its,rv,p,hz⟩:=I1.tuple (SqT.of e)
   exact Wu (show s1.heap.IsTuple a its.toArray from p) ⟨s1.heap.objs.size,[s1.heap.objs.size],_,_,H1,rfl,I1.kept (t':=s1.toks) λb o e=>Ac _ e,jf4 a _,⟨_,Ai _ rfl,rfl,rfl⟩,fr,q1⟩
  ·exact q1.elim
 |_=>exact False.elim q1
theorem jox{z:Str}{g:TG}{tb:TS}{D:Ends}{σ:St}{H:Hp}(Pv:Nat->St->Hp->Prop)(h0:Pv 0 σ H)
  (hs:∀i c σ H,z.cps.toList[i]?=some c->Pv i σ H->g (.str ⟨#[c]⟩) σ H λσ2 H2=>tb {D with nx:=Pv (i+1),ct:=Pv (i+1),bk:=D.nx} σ2 H2) (hd:∀σ H,Pv z.length σ H->D.nx σ H) :
  ∃W:Nat->Nat->St->Hp->Prop,(∃m,W 0 m σ H)/\∀i m σ H,W i m σ H ->
   ((ItS z).stop i H/\D.nx σ H)\/((ItS z).go i H/\∃N:St->Hp->Prop,(∀σ' H',N σ' H'->∃m',m'<m/\W (i+1) m' σ' H')/\∀x H',(ItS z).yld i H x H'->g x σ H' λσ2 H2=>tb {D with nx:=N,ct:=N,bk:=D.nx} σ2 H2):=by
 refine⟨λi m σ H=>m=z.length-i/\i<=z.length/\Pv i σ H,⟨z.length,by simp,Ou _,h0⟩,?_⟩
 rintro i m σ H ⟨rfl,hi,p⟩
 by_cases hlt:i<z.length
 ·refine .inr ⟨hlt,Pv (i+1),λσ' H' p'=>⟨z.length-(i+1),by omega,rfl,hlt,p'⟩,λx H' y=>?_⟩
  obtain⟨e,c,e1,e2⟩:=y
  subst e e2
  exact hs i c σ _ e1 p
 ·have e:i=z.length:=by omega
  subst e
  exact .inl ⟨Af _,hd σ H p⟩
mutual
def Rep(H:Hp):V->PyData->Prop
 |v,.none=>v=.non
 |v,.bool b=>v=.bl b
 |v,.int i=>v=.int i
 |v,.str x=>v=.str x
 |v,.list ds=>∃a vs,v=.ref a/\H a=some (.lst vs)/\Reps H vs ds
 |v,.tuple ds=>∃a vs,v=.ref a/\H a=some (.tup vs)/\Reps H vs ds
 |_,.dict _=>False
def Reps(H:Hp):List V->List PyData->Prop
 |[],[]=>True
 |v::vs,d::ds=>Rep H v d/\Reps H vs ds
 |_,_=>False
end
theorem Reps.strs(H:Hp):∀l:List Str,Reps H (l.map V.str) (l.map PyData.str)
 |[]=>by simp[Reps]
 |x::r=>by simp[Reps,Rep,Reps.strs H r]
section
variable{pins:List (Addr×Obj)}{σ:L2.St}{H:Hp}{s:Shared}
mutual
theorem Rep.reads(I:Inv X pins σ H s):∀{d:PyData}{v:V}{u:Value},Rep H v d->RelV v u->∃as,Reads s.heap u d as
 |.none,v,u,h,r=>by simp only[Rep]at h;subst h;cases r;exact⟨_,.none⟩
 |.bool b,v,u,h,r=>by simp only[Rep]at h;subst h;cases r;exact⟨_,.bool b⟩
 |.int i,v,u,h,r=>by simp only[Rep]at h;subst h;obtain⟨t,rfl⟩:=r;exact⟨_,.int i t⟩
 |.str x,v,u,h,r=>by simp only[Rep]at h;subst h;obtain⟨t,rfl⟩:=r;exact⟨_,.str x t⟩
 |.list ds,v,u,h,r=>by
  simp only[Rep]at h
  obtain⟨a,vs,rfl,e,h⟩:=h
  cases r
  obtain⟨its,rv,⟨o,n,e1,e2,e3,e4⟩,hz⟩:=I.list (SqL.of e)
  obtain⟨as,q⟩:=Reps.reads I h rv
  exact⟨_,reads_list_at e1 e2 e4 (by simpa using q)⟩
 |.tuple ds,v,u,h,r=>by
  simp only[Rep]at h
  obtain⟨a,vs,rfl,e,h⟩:=h
  cases r
  obtain⟨its,rv,⟨o,e1,e2,n,e4⟩,hz⟩:=I.tuple (SqT.of e)
  obtain⟨as,q⟩:=Reps.reads I h rv
  exact⟨_,reads_tuple_at e1 e2 e4 (by simpa using q)⟩
 |.dict _,v,u,h,r=>by simp only[Rep]at h
theorem Reps.reads(I:Inv X pins σ H s):∀{ds:List PyData}{vs:List V}{us:List Value},Reps H vs ds->Vals vs us->∃as,ReadsAll s.heap us ds as
 |[],[],us,h,r=>by cases r;exact⟨_,.nil⟩
 |[],v::vs,us,h,r=>by simp only[Reps]at h
 |d::ds,[],us,h,r=>by simp only[Reps]at h
 |d::ds,v::vs,us,h,r=>by
  simp only[Reps]at h
  cases r with
  |cons r1 r2 =>
   obtain⟨as,q⟩:=Rep.reads I h.1 r1
   obtain⟨bs,q2⟩:=Reps.reads I h.2 r2
   exact⟨_,.cons q q2⟩
end
end
def rEqD:R2:=λx y H Q=>∃d e,Rep H x d/\Rep H y e/\SeqAt.shaped d=true/\SeqAt.shaped e=true/\Q (.bl (PyData.eqv d e)) H
theorem op_eqD(hu:X.A.units+64<cLine):OpR X (compareOp .Eq) rEqD:=by
 intro pins s σ H x y v u Q I rx ry h
 obtain⟨d,e,hd,he,sd,se,q⟩:=h
 obtain⟨as,r1⟩:=hd.reads I rx
 obtain⟨bs,r2⟩:=he.reads I ry
 exact eq_dataH r1 r2 sd se hu ⟨.bl _,H,I,rfl,q⟩
def rNeD:R2:=λx y H Q=>∃d e,Rep H x d/\Rep H y e/\SeqAt.shaped d=true/\SeqAt.shaped e=true/\Q (.bl (!PyData.eqv d e)) H
theorem op_neD(hu:X.A.units+64<cLine):OpR X (compareOp .NotEq) rNeD:=by
 intro pins s σ H x y v u Q I rx ry h
 obtain⟨d,e,hd,he,sd,se,q⟩:=h
 obtain⟨as,r1⟩:=hd.reads I rx
 obtain⟨bs,r2⟩:=he.reads I ry
 exact ne_dataH r1 r2 sd se hu ⟨.bl _,H,I,rfl,q⟩
end
theorem kc:bootBuiltins "len"=some (.builtin "len"):=by decide +kernel
theorem bt_max:bootBuiltins "max"=some (.builtin "max"):=by decide +kernel
theorem jax:bootBuiltins "isinstance"=some (.builtin "isinstance"):=by decide +kernel
theorem bt_all:bootBuiltins "all"=some (.builtin "all"):=by decide +kernel
theorem bt_any:bootBuiltins "any"=some (.builtin "any"):=by decide +kernel
theorem bt_sorted:bootBuiltins "sorted"=some (.builtin "sorted"):=by decide +kernel
theorem jcc:bootBuiltins "int"=some (.type "int"):=by decide +kernel
theorem ja4:bootBuiltins "list"=some (.type "list"):=by decide +kernel
theorem z3:bootBuiltins "tuple"=some (.type "tuple"):=by decide +kernel
theorem ja3:bootBuiltins "dict"=some (.type "dict"):=by decide +kernel
theorem bt_set:bootBuiltins "set"=some (.type "set"):=by decide +kernel
theorem bt_bool:bootBuiltins "bool"=some (.type "bool"):=by decide +kernel
theorem jcd:bootBuiltins "zip"=some (.type "zip"):=by decide +kernel
section
variable{X:Cx}
def isL(x:V)(H:Hp):Prop:=match x with
 |.ref p=>(jcu (H p)).isSome=true
 |_=>False
def tBML(r:V->List V->Hp->VK->Prop)(to:TE)(t:TA):TE:=λσ H Q=>to σ H λx H1=>isL x H1/\t σ H1 λxs H2=>r x xs H2 Q
theorem isL.ty{K:PySem.W.Frag}{x:V}{H:Hp}(h:isL x H):tyV K "list" x H:=by
 unfold isL at h
 split at h
 ·rename_i p
  cases e:jcu (H p)with
  |none=>rw[e]at h;cases h
  |some ys=>exact .inl ⟨rfl,ys,SqL.of (jcy e)⟩
 ·exact h.elim
variable{o e:Expr}{es:List Expr}{to:TE}{t:TA}{name:Str}{apos cpos:Pos}{id:String}{r:V->List V->Hp->VK->Prop}
theorem PE.imp{e:Expr}{t t':TE}(h:PE X e t)(hi:∀σ H Q,t' σ H Q->t σ H Q):PE X e t':=λpins s σ H Q I hw=>h pins s σ H Q I (hi σ H Q hw)
theorem pe_bmL(slot:Slot "list" name id)(hty:typeOf (.builtin id)=pure (.type "method_descriptor"))(hm:MtM X id r)(ho:PE X o to)(ha:PA X (e::es) t)(mono:∀σ H Q Q',(∀v H',Q v H'->Q' v H')->to σ H Q->to σ H Q')
  (hbase:attributeBase o name X.env (eval o X.env)=eval o X.env:=by rfl)
  (hfew:((backTo cpos (starEach (e::es) X.env)).all (λx=>!x.1) && (backToKw cpos (keywordEach [] X.env)).all (λx=>x.1.isSome)
   && decide ((e::es).length+([]:List Keyword).length+(if([]:List Keyword).isEmpty then 0 else 1)<30))=true:=by rfl)
  (hline:(apos.endLine == cpos.line)=true:=by rfl) (hs:starEach (e::es) X.env=(false,eval e X.env)::starEach es X.env:=by rfl) (hplain:(backTo cpos (starEach es X.env)).any (·.1)=false:=by rfl) :
  PE X (.Call (.Attribute o name apos) (e::es) [] cpos) (tBML r to t) :=
 (jcf PySem.F.plainAttrs_list slot hty hm ho ha hbase hfew hline hs hplain).imp λσ H Q h=>mono σ H _ _ (λv H' q=>⟨q.1.ty,q.2⟩) h
theorem jcl{i:Nat}:∀σ H Q Q',(∀v H',Q v H'->Q' v H')->tVar i σ H Q->tVar i σ H Q':=λ_ _ _ _ h ⟨v,e,q⟩=>⟨v,e,h v _ q⟩
def jff:V->List V->Hp->VK->Prop:=λx vs H Q=>match x,vs with
 |.ref l,[y]=>∃xs,jcu (H l)=some xs/\xs.length<sizeLine/\Q .non (upd H l (.lst (xs++[y])))
 |_,_=>False
theorem ku:MtM X "list.append" jff:=by
 intro pins s σ H x vs v us Q I rx rv h
 unfold jff at h
 split at h
 ·rename_i l y
  obtain⟨xs,e,h⟩:=h
  exact jao pins s σ H _ _ v us Q I rx rv ⟨l,xs,y,rfl,rfl,jcy e,h⟩
 ·exact h.elim
def rEqU:R2:=λx y H Q=>match x,y with
 |.int i,.int j=>Q (.bl (decide (i=j))) H
 |.bl i,.bl j=>Q (.bl (decide (i=j))) H
 |.str i,.str j=>Q (.bl (decide (i=j))) H
 |.ref a,.ref b=>rEqD (.ref a) (.ref b) H Q
 |x,y=>scal x y=true/\Q (.bl (decide (x=y))) H
def rNeU:R2:=λx y H Q=>match x,y with
 |.int i,.int j=>Q (.bl (!decide (i=j))) H
 |.bl i,.bl j=>Q (.bl (!decide (i=j))) H
 |.str i,.str j=>Q (.bl (!decide (i=j))) H
 |.ref a,.ref b=>rNeD (.ref a) (.ref b) H Q
 |x,y=>scal x y=true/\Q (.bl (!decide (x=y))) H
theorem j3(hu:X.A.units+64<cLine):OpR X (compareOp .Eq) rEqU:=by
 intro pins s σ H x y v u Q I rx ry h
 unfold rEqU at h
 split at h
 ·exact jbp pins s σ H _ _ v u Q I rx ry ⟨rfl,by simpa using h⟩
 ·exact jbp pins s σ H _ _ v u Q I rx ry ⟨rfl,by simpa using h⟩
 ·exact jbp pins s σ H _ _ v u Q I rx ry ⟨rfl,by simpa using h⟩
 ·exact op_eqD hu pins s σ H _ _ v u Q I rx ry h
 ·exact jbp pins s σ H _ _ v u Q I rx ry h
theorem jbr(hu:X.A.units+64<cLine):OpR X (compareOp .NotEq) rNeU:=by
 intro pins s σ H x y v u Q I rx ry h
 unfold rNeU at h
 split at h
 ·exact jbq pins s σ H _ _ v u Q I rx ry ⟨rfl,by simpa using h⟩
 ·exact jbq pins s σ H _ _ v u Q I rx ry ⟨rfl,by simpa using h⟩
 ·exact jbq pins s σ H _ _ v u Q I rx ry ⟨rfl,by simpa using h⟩
 ·exact op_neD hu pins s σ H _ _ v u Q I rx ry h
 ·exact jbq pins s σ H _ _ v u Q I rx ry h
theorem ji3(H:Hp)(Q:VK)(i j:Int):rLtU (.int i) (.int j) H Q=(Q (.bl (decide (i<j))) H):=rfl
theorem ji4(H:Hp)(Q:VK)(i j:Str):rLtU (.str i) (.str j) H Q=(Q (.bl (decide (i.cps.toList<j.cps.toList))) H):=rfl
theorem ji2(H:Hp)(Q:VK)(z:Str)(i:Int):rIxU (.str z) (.int i) H Q=(z.length<=sizeLine/\∃c,atI z.cps.toList i=some c/\Q (.str ⟨#[c]⟩) H):=rfl
theorem ji1(H:Hp)(Q:VK)(p:Addr)(i:Int):rIxU (.ref p) (.int i) H Q=(∃xs,jc2 (H p)=some xs/\∃v,atI xs i=some v/\Q v H):=rfl
theorem jg7(H:Hp)(Q:VK)(z:Str):jhx [.str z] H Q=(z.length<=sizeLine/\Q (.int z.length) H):=rfl
theorem jg6(H:Hp)(Q:VK)(p:Addr):jhx [.ref p] H Q=(∃ys,jc2 (H p)=some ys/\Q (.int ys.length) H):=rfl
theorem jg5(H:Hp)(Q:VK)(i:Int):jhw [.int i] H Q=(Q (.int i) H):=rfl
theorem ji0(H:Hp)(Q:VK)(k:Bool):jhw [.bl k] H Q=(Q (.int (if k then 1 else 0)) H):=rfl
theorem jfy(H:Hp)(Q:VK)(z:Str):jfw [.str z] H Q=(z.length<=sizeLine/\∀l,H l=none->Q (.ref l) (upd H l (.lst (sgn z)))):=rfl
theorem jfx(H:Hp)(Q:VK)(p:Addr):jfw [.ref p] H Q=(∃ys,jc2 (H p)=some ys/\∀l,H l=none->Q (.ref l) (upd H l (.lst ys))):=rfl
theorem jhb(H:Hp)(Q:VK)(l:Addr)(i:Int):jlf (.ref l) [.int i] H Q=(∃xs,jcu (H l)=some xs/\0<=i/\∃y,xs[i.toNat]?=some y/\Q y (upd H l (.lst (xs.eraseIdx i.toNat)))):=rfl
theorem jel(H:Hp)(Q:VK)(l:Addr)(y:V):jff (.ref l) [y] H Q=(∃xs,jcu (H l)=some xs/\xs.length<sizeLine/\Q .non (upd H l (.lst (xs++[y])))):=rfl
theorem jiw(H:Hp)(Q:VK)(i j:Int):rEqU (.int i) (.int j) H Q=(Q (.bl (decide (i=j))) H):=rfl
theorem jkg(H:Hp)(Q:VK)(i j:Bool):rEqU (.bl i) (.bl j) H Q=(Q (.bl (decide (i=j))) H):=rfl
theorem jiy(H:Hp)(Q:VK)(i j:Str):rEqU (.str i) (.str j) H Q=(Q (.bl (decide (i=j))) H):=rfl
theorem jix(H:Hp)(Q:VK)(i j:Addr):rEqU (.ref i) (.ref j) H Q=(rEqD (.ref i) (.ref j) H Q):=rfl
theorem ji5(H:Hp)(Q:VK)(i j:Int):rNeU (.int i) (.int j) H Q=(Q (.bl (!decide (i=j))) H):=rfl
theorem jki(H:Hp)(Q:VK)(i j:Bool):rNeU (.bl i) (.bl j) H Q=(Q (.bl (!decide (i=j))) H):=rfl
theorem ji7(H:Hp)(Q:VK)(i j:Str):rNeU (.str i) (.str j) H Q=(Q (.bl (!decide (i=j))) H):=rfl
theorem ji6(H:Hp)(Q:VK)(i j:Addr):rNeU (.ref i) (.ref j) H Q=(rNeD (.ref i) (.ref j) H Q):=rfl
theorem jkh(K:PySem.W.Frag)(x:V)(c:String)(H:Hp)(Q:VK):rIsU K [x,.ty c] H Q=(∃t b,TyOf K H x t/\PySem.W.kitOne K t (.type c)=some b/\Q (.bl b) H):=rfl
theorem jhc(p:Addr)(k:Int)(v:V)(H:Hp)(Q:Hp->Prop):jok (.ref p) (.int k) v H Q=(∃xs,jcu (H p)=some xs/\∃j,ixN xs.length k=some j/\Q (upd H p (.lst (xs.set j v)))):=rfl
theorem jka(p:Addr)(H:Hp):isL (.ref p) H=((jcu (H p)).isSome=true):=rfl
def jcn(J:It)(g:TG)(tb:TS)(D:Ends)(σ:L2.St)(H1:Hp):Prop:=∃W:Nat->Nat->L2.St->Hp->Prop,(∃m,W 0 m σ H1)/\∀i m σ H,W i m σ H ->
 (J.stop i H/\D.nx σ H)\/(J.go i H/\∃N:L2.St->Hp->Prop,(∀σ' H',N σ' H'->∃m',m'<m/\W (i+1) m' σ' H')/\∀x H',J.yld i H x H'->g x σ H' λσ2 H2=>tb {D with nx:=N,ct:=N,bk:=D.nx} σ2 H2)
theorem jkr(wi:TI)(g:TG)(tb:TS)(D:Ends)(σ:L2.St)(H:Hp):tFor wi g tb D σ H=wi σ H λJ H1=>jcn J g tb D σ H1:=rfl
theorem jcv{lo:Int}{n:Nat}{g:TG}{tb:TS}{D:Ends}{σ:L2.St}{H:Hp}(Pv:Nat->L2.St->Hp->Prop)(h0:Pv 0 σ H)
  (hs:∀i σ H,i<n->Pv i σ H->g (.int (lo+i)) σ H λσ2 H2=>tb {D with nx:=Pv (i+1),ct:=Pv (i+1),bk:=D.nx} σ2 H2) (hd:∀σ H,Pv n σ H->D.nx σ H):jcn (Itr lo n) g tb D σ H:=jmc Pv h0 hs hd
theorem jnv{z:Str}{g:TG}{tb:TS}{D:Ends}{σ:L2.St}{H:Hp}(Pv:Nat->L2.St->Hp->Prop)(h0:Pv 0 σ H)
  (hs:∀i c σ H,z.cps.toList[i]?=some c->Pv i σ H->g (.str ⟨#[c]⟩) σ H λσ2 H2=>tb {D with nx:=Pv (i+1),ct:=Pv (i+1),bk:=D.nx} σ2 H2) (hd:∀σ H,Pv z.length σ H->D.nx σ H):jcn (ItS z) g tb D σ H:=jox Pv h0 hs hd
theorem jcs{K:PySem.W.Frag}{a:Addr}{xs:List V}{g:TG}{tb:TS}{D:Ends}{σ:L2.St}{H:Hp}(Pv:Nat->L2.St->Hp->Prop)(h0:Pv 0 σ H)(hl:∀i σ H,i<=xs.length->Pv i σ H->H a=some (.lst xs))
  (hs:∀i x σ H,xs[i]?=some x->Pv i σ H->g x σ H λσ2 H2=>tb {D with nx:=Pv (i+1),ct:=Pv (i+1),bk:=D.nx} σ2 H2) (hd:∀σ H,Pv xs.length σ H->D.nx σ H):jcn (Itl K a) g tb D σ H :=
 jnn Pv h0 (λi σ H h p=>SqL.of (hl i σ H h p)) hs hd
theorem jds{K:PySem.W.Frag}{a:Addr}{xs:List V}{g:TG}{tb:TS}{D:Ends}{σ:L2.St}{H:Hp}(Pv:Nat->L2.St->Hp->Prop)(h0:Pv 0 σ H)(hl:∀i σ H,i<=xs.length->Pv i σ H->H a=some (.tup xs))
  (hs:∀i x σ H,xs[i]?=some x->Pv i σ H->g x σ H λσ2 H2=>tb {D with nx:=Pv (i+1),ct:=Pv (i+1),bk:=D.nx} σ2 H2) (hd:∀σ H,Pv xs.length σ H->D.nx σ H):jcn (Itt K a) g tb D σ H :=
 jj7 Pv h0 (λi σ H h p=>SqT.of (hl i σ H h p)) hs hd
end
def clOf(env:Env):List (Str×NameKind)->List (Str×Addr)->List (Str×Addr)
 |[],cs=>cs
 |(n,k)::r,cs=>clOf env r (if k == .free then(n,(env.cells.lookup n).getD 0)::cs else cs)
theorem jdd{env:Env}{scope:Scope}(h:∀y∈scope.names,y.2=.free->∃c,env.cells.lookup y.1=some c):closureFor scope env=pure (clOf env scope.names []):=by
 have gen:∀(l:List (Str×NameKind))(cs:List (Str×Addr)),(∀y∈l,y.2=.free->∃c,env.cells.lookup y.1=some c) ->
   (forIn l cs λx r=>(match x with|(name,kind)=>if(kind == NameKind.free)=true then do let c <-cellOf env name;pure (ForInStep.yield ((name,c)::r))else pure (ForInStep.yield r)):Sem (List (Str×Addr)))=pure (clOf env l cs):=by
  intro l
  induction l with
  |nil=>intro cs _;rfl
  |cons y l ih =>
   intro cs hy
   obtain⟨n,k⟩:=y
   rw[Ui]
   have hr:=λz hz=>hy z (Im _ hz)
   by_cases hk:k=.free
   ·subst hk
    obtain⟨c,hc⟩:=hy _ (Oa ..) rfl
    have hc':env.cells.lookup n=some c:=hc
    have e:cellOf env n=pure c:=by unfold cellOf;rw[hc']
    simp only[Wa,Uj,e,pure_bind]
    rw[ih _ hr]
    simp[clOf,hc']
   ·have hb:(k == NameKind.free)=false:=by simpa using hk
    simp only[hb,Iw,O6,pure_bind]
    rw[ih _ hr]
    simp[clOf,hb]
 exact(Ob (· >>= λs=>pure s) (gen scope.names [] h)).trans (by rfl)
theorem jdq{env:Env}:∀(l:List (Str×NameKind))(cs:List (Str×Addr))(x:Str)(c:Addr),(∀y∈l,y.2=.free->∃c,env.cells.lookup y.1=some c)->(∀x c,cs.lookup x=some c->env.cells.lookup x=some c) ->
  (clOf env l cs).lookup x=some c->env.cells.lookup x=some c
 |[],cs,x,c,_,hc,h=>hc x c h
 |(n,k)::r,cs,x,c,hl,hc,h=>by
  unfold clOf at h
  refine jdq r _ x c (λy hy=>hl y (Im _ hy)) (λz d hz=>?_) h
  split at hz
  ·rename_i hk
   rw[List.lookup_cons]at hz
   cases hzn:z == n with
   |true =>
    rw[hzn]at hz
    obtain⟨c',hc'⟩:=hl _ (Oa ..) (by simpa using hk)
    have hc'':env.cells.lookup n=some c':=hc'
    have ez:z=n:=by simpa using hzn
    subst ez
    rw[hc'']at hz
    rw[hc'']
    exact hz
   |false=>rw[hzn]at hz;exact hc z d hz
  ·exact hc z d hz
theorem jgp{env:Env}:∀(l:List (Str×NameKind))(cs:List (Str×Addr))(x:Str),(∃c,cs.lookup x=some c)->∃c,(clOf env l cs).lookup x=some c
 |[],cs,x,h=>h
 |(n,k)::r,cs,x,h=>by
  unfold clOf
  refine jgp r _ x ?_
  split
  ·rw[List.lookup_cons]
   cases x == n with
   |true=>exact⟨_,rfl⟩
   |false=>exact h
  ·exact h
theorem jdp{env:Env}:∀(l:List (Str×NameKind))(cs:List (Str×Addr))(x:Str),(x,NameKind.free)∈l->∃c,(clOf env l cs).lookup x=some c
 |(n,k)::r,cs,x,h=>by
  unfold clOf
  rcases Ar.mp h with h|h
  ·cases h
   refine jgp r _ _ ?_
   simp[List.lookup_cons]
  ·exact jdp r _ x h
abbrev Cx.comp(X:Cx)(scope:Scope)(C:Addr)(Nc:List Str)(s3:Shared)(H3:Hp)(fp:List Addr):Cx :=
 {X with N:=Nc,s₀:=s3,H₀:=H3,env:=compEnvC scope (clOf X.env scope.names []) C X.env,outer:=X.stack,stack:=X.stack,ex:=fp,fn:=λ_=>false,pn:=[],xe:=λ_ _=>False}
def jcw(js:List (Option Nat))(σ:L2.St):L2.St:=js.map λo=>o.bind λj=>(σ[j]?).getD none
def jc3(D:Addr)(te:TE):TS:=λE σ H=>te σ H λv H1=>∃ys,jcu (H1 D)=some ys/\ys.length<sizeLine/\E.nx σ (upd H1 D (.lst (ys++[v])))
def jdx(wi:TI)(g:TG)(js:List (Option Nat))(te:TE):TE:=λσ H Q=>wi σ H λJ H1=>∀D,H1 D=none ->
 jcn J g (jc3 D te) {nx:=λ_ H'=>Q (.ref D) H',rt:=λ_ _=>False} (jcw js σ) (upd H1 D (.lst []))
structure CompOk(X:Cx)(scope:Scope)(Nc:List Str)(js:List (Option Nat)):Prop where
 kind:scope.kind=.function
 nocell:∀y∈scope.names,y.2≠.cell
 loc:∀y∈scope.names,y.2=.local->scope.names.lookup y.1=some .local
 free:∀y∈scope.names,y.2=.free->X.env.kindOf y.1=some .cell\/X.env.kindOf y.1=some .free
 len:js.length=Nc.length
 nol:∀x,(x,NameKind.free)∈scope.names->scope.names.lookup x≠some .local
 see:∀(i j:Nat)(x:Str),js[i]?=some (some j)->Nc[i]?=some x->X.N[j]?=some x/\(x,NameKind.free)∈scope.names
section
variable{X:Cx}{pins:List (Addr×Obj)}{σ:L2.St}{H:Hp}{s:Shared}{scope:Scope}{Nc:List Str}{js:List (Option Nat)}{fp:List Addr}
theorem CompOk.has(c:CompOk X scope Nc js)(I:Inv X pins σ H s):∀y∈scope.names,y.2=.free->∃a,X.env.cells.lookup y.1=some a:=λy hy hf=>I.ok.has _ (c.free y hy hf)
theorem jem{env:Env}{x:Str}:∀{l:List (Str×NameKind)},(∀y∈l,y.2≠.cell) ->
  ((l.map fun(n,k)=>if(k == NameKind.free && env.scope.kind == .function && env.kindOf n == some .cell)then(n,NameKind.cell)else(n,k)).lookup x=some .cell \/
   (l.map fun(n,k)=>if(k == NameKind.free && env.scope.kind == .function && env.kindOf n == some .cell)then(n,NameKind.cell)else(n,k)).lookup x=some .free)->(x,NameKind.free)∈l
 |[],_,h=>by simp at h
 |(n,k)::r,hc,h=>by
  rw[A9]at h
  by_cases hx:x=n
  ·subst hx
   have hk:k=.free:=by
    have hk':k≠.cell:=hc _ (Oa ..)
    by_cases hcond:(k == NameKind.free && env.scope.kind == .function && env.kindOf x == some .cell)=true
    ·rw[Iz,Iz]at hcond
     simpa using hcond.1.1
    ·simp only[hcond,Iw,O6,List.lookup_cons,Wa]at h
     rcases h with h|h
     ·exact absurd (Av h) hk'
     ·exact Av h
   subst hk
   exact Oa ..
  ·refine Im _ (jem (env:=env) (λy hy=>hc y (Im _ hy)) ?_)
   have hxn:(x == n)=false:=by simpa using hx
   by_cases hcond:(k == NameKind.free && env.scope.kind == .function && env.kindOf n == some .cell)=true
   ·simpa only[hcond,Uj,List.lookup_cons,hxn]using h
   ·simpa only[hcond,Iw,O6,List.lookup_cons,hxn]using h
theorem jdz{env:Env}{x:Str}:∀{l:List (Str×NameKind)},
  (l.map fun(n,k)=>if(k == NameKind.free && env.scope.kind == .function && env.kindOf n == some .cell)then(n,NameKind.cell)else(n,k)).lookup x=some .local->l.lookup x=some .local
 |[],h=>by simp at h
 |(n,k)::r,h=>by
  rw[A9]at h
  by_cases hx:x=n
  ·subst hx
   by_cases hcond:(k == NameKind.free && env.scope.kind == .function && env.kindOf x == some .cell)=true
   ·simp only[hcond,Uj,List.lookup_cons,Wa]at h
    cases h
   ·simp only[hcond,Iw,O6,List.lookup_cons,Wa]at h
    simp only[List.lookup_cons,Wa]
    exact h
  ·have hxn:(x == n)=false:=by simpa using hx
   rw[List.lookup_cons,hxn]
   refine jdz (env:=env) ?_
   by_cases hcond:(k == NameKind.free && env.scope.kind == .function && env.kindOf n == some .cell)=true
   ·simpa only[hcond,Uj,List.lookup_cons,hxn]using h
   ·simpa only[hcond,Iw,O6,List.lookup_cons,hxn]using h
theorem jot(c:CompOk X scope Nc js)(I:Inv X pins σ H s)(hf:∀b∈fp,FpOk X pins H b)(ho:∀b∈fp,∃o,s.heap.get? b=some o):(X.comp scope s.heap.objs.size Nc s H fp).Ok:=by
 have hs:=c.has I
 have sub:∀x a,(clOf X.env scope.names []).lookup x=some a->X.env.cells.lookup x=some a:=λx a=>jdq _ _ x a hs (λ_ _ z=>nomatch z)
 refine⟨I.ok.mod,c.kind,I.ok.glob,I.ok.blt,Af _,λx y a e1 e2=>I.ok.inj x y a (sub x a e1) (sub y a e2),λx h=>jdp _ _ x (jem (env:=X.env) c.nocell h),(λx a h=>nomatch h),I.ok.hd,I.ok.frames,.inl rfl,λb hb=>⟨?_,λx a e=>?_⟩,I.bs,
  Io I.ok.bsz I.sz,λb o e hb=>?_,λb hb hb'=>?_,I.stack,I.stkFree⟩
 ·obtain⟨o,e⟩:=ho b hb
  exact Ao (Al e)
 ·exact(hf b hb).2.2.2.2.1 x a (sub x a e)
 ·rcases(hf b hb).2.2.2.1 with z|z
  ·exact I.ok.noex b o e z
  ·exact absurd (A0 (Al (I.ok.bs b o e).1) z) (O8 _)
 ·rcases Ar.mp (I.stkSub b hb')with z|z
  ·exact(hf b hb).2.1 z
  ·exact(hf b hb).2.2.1 z
theorem jig(c:CompOk X scope Nc js)(I:Inv X pins σ H s)(hf:∀b∈fp,FpOk X pins H b)(ho:∀b∈fp,∃o,s.heap.get? b=some o){h':Heap}{m:Str->Option Value}{tk:Nat}(hn:h'.Ns s.heap.objs.size m)
  (hk:∀b o,s.heap.get? b=some o->h'.get? b=some o):Inv (X.comp scope s.heap.objs.size Nc s H fp) [] (jcw js σ) H {s with heap:=h',toks:=tk}:=by
 have hs:=c.has I
 have sub:∀x a,(clOf X.env scope.names []).lookup x=some a->X.env.cells.lookup x=some a:=λx a=>jdq _ _ x a hs (λ_ _ z=>nomatch z)
 refine⟨jot c I hf ho,rfl,I.bare,Un.kept hk,⟨m,hn,λi x v e1 e2 e3=>?_⟩,λx a e=>?_,I.hok.fresh (Af _),λx a e=>I.freeC x a (sub x a e),(λp hp=>nomatch hp),I.hok.kept hk,by simp only[jcw,Ad];exact c.len⟩
 ·have e2':(jcw js σ)[i]?=some (some v):=e2
  unfold jcw at e2'
  rw[Ax]at e2'
  cases ej:js[i]? with
  |none=>rw[ej]at e2';cases e2'
  |some o =>
   rw[ej]at e2'
   cases o with
   |none=>cases e2'
   |some j =>
    have e4:(σ[j]?).getD none=some v:=Av e2'
    have e5:σ[j]?=some (some v):=by
     cases q:σ[j]? with
     |none=>rw[q]at e4;cases e4
     |some w=>rw[q]at e4;exact Ob some e4
    obtain⟨n1,n2⟩:=c.see i j x ej e1
    have hkd:=c.free _ n2 rfl
    obtain⟨a,ha⟩:=jdp (env:=X.env) scope.names [] x n2
    obtain⟨m0,_,hl⟩:=I.loc
    obtain⟨u,r,l⟩:=hl j x v n1 e5 (by
     rcases hkd with z|z
     ·exact .inr (.inl z)
     ·exact .inr (.inr z))
    refine⟨u,r,?_⟩
    rcases l with⟨k,_⟩|⟨_,a',ha',hcell⟩
    ·rcases hkd with z|z
     ·rw[z]at k;cases k
     ·rw[z]at k;cases k
    ·have:a'=a:=Av (ha'.symm.trans (sub x a ha))
     subst this
     refine .inr ⟨?_,a',ha,?_⟩
     ·rcases e3 with z|z|z
      ·exfalso
       have q:(relabel scope X.env).names.lookup x=some .local:=z
       exact c.nol x n2 (jdz q)
      ·exact .inl z
      ·exact .inr z
     ·obtain⟨o,q,d⟩:=hcell
      exact⟨o,hk _ o q,d⟩
 ·obtain⟨v,o,q,d⟩:=I.cell x a (sub x a e)
  exact⟨v,o,hk _ o q,d⟩
theorem jdk(I:Inv X pins σ H s)(hf:∀b∈fp,FpOk X pins H b){σ':L2.St}{H':Hp}{s':Shared}{h'':Heap}(J:Inv (X.comp scope s.heap.objs.size Nc s H fp) [] σ' H' s')(hs:Heap.SameBut s.heap.objs.size s'.heap h'') :
  Inv X pins σ H' {s' with heap:=h''}:=by
 have ne:∀b o,s.heap.get? b=some o->b≠s.heap.objs.size:=λb o e=>Ao (Al e)
 have u:Un (frs X.stack) fp H H' s.heap s'.heap:=J.base
 refine I.call' (s':={s' with heap:=h''}) (ch:=fp) J.os ⟨λb o e n hb hx=>?_,λb o e n hb hx=>?_,u.free,λb o e hx=>?_,u.tups,u.frzs,u.tbls⟩ (λb o e=>?_) J.bare λb hb=>?_
 ·exact(hs.2 b (ne b o e)).trans (u.keep b o e n hb hx)
 ·obtain⟨sl,q⟩:=u.slot b o e n hb hx
  exact⟨sl,(hs.2 b (ne b o e)).trans q⟩
 ·obtain⟨o',q⟩:=u.there b o e hx
  exact⟨o',(hs.2 b (ne b o e)).trans q⟩
 ·have hC:H' s.heap.objs.size=none:=J.free
  refine(J.hok b o e).stay (λd v hd q=>(hs.2 d ?_).trans q) (λ_ q=>q) λ_ _ q=>q
  rintro rfl
  rcases hd with z|z
  ·rw[<-z,hC]at e;cases e
  ·rw[hC]at z;cases z
 ·obtain⟨_,f1,_,f3,f4,f5⟩:=hf b hb
  exact⟨f3,f1,f4,f5⟩
end
section
variable{X:Cx}{scope:Scope}{Nc:List Str}{js:List (Option Nat)}{elt tg iter:Expr}{pos:Pos}{wi:TI}{g:TG}{te:TE}
theorem jgq(hc:X.calm=true)(c:CompOk X scope Nc js)(hi:PI X tg iter wi)(hg:∀C s3 H3 fp,PG (X.comp scope C Nc s3 H3 fp) tg g)(he:∀C s3 H3 fp,PE (X.comp scope C Nc s3 H3 fp) elt te)
  {pins:List (Addr×Obj)}{s:Shared}{σ:L2.St}{H:Hp} (I:Inv X pins σ H s) {RR:Value->Addr->Result->Shared->Prop}{NX:Addr->Hp->Prop}
  (h:wi σ H λJ H1=>∀D,H1 D=none->jcn J g (jc3 D te) {nx:=λ_ H'=>NX D H',rt:=λ_ _=>False} (jcw js σ) (upd H1 D (.lst [])))
  (fin:∀D H3 s3 fp σ5 H5 s6,Inv X pins σ H3 s3->(∀b∈fp,FpOk X pins H3 b)->Inv (X.comp scope s3.heap.objs.size Nc s3 H3 fp) [] σ5 H5 s6->NX D H5->RR (.ref D) s3.heap.objs.size (.ok .next) s6) :
  wpAny (model X.prog X.w) X.A (eval iter X.env) (λx s₁=>wpAny (model X.prog X.w) X.A (pyIter x) (λit s₂=>wpAny (model X.prog X.w) X.A (newList []) (λacc s₃ =>
   wpAny (model X.prog X.w) X.A (newFunctionEnv scope X.env.globals (clOf X.env scope.names []) [] X.env.qual none .none (some X.env)) (λcenv s₄ =>
    codeAny (model X.prog X.w) X.A (.compStart (.ListComp elt [⟨tg,iter,[],0⟩] scope pos) 0 it acc {cenv with scope:=relabel scope X.env}) (RR acc cenv.locals) s₄) X.xe s₃) X.xe s₂) X.xe s₁) X.xe s:=by
 refine thn (hi pins s σ H _ I h) λv s1 h1=>thn h1 λitv s2 h2=>?_
 obtain⟨it,fp,tn,J,H2,rfl,I2,T,st2,f2,h2⟩:=h2
 refine Oc ?_ (by show 0<=sizeLine;decide)
 have hD:H2 s2.heap.objs.size=none:=I2.hok.fresh (Af _)
 have I3:Inv X pins σ (upd H2 s2.heap.objs.size (.lst [])) {s2 with heap:=s2.heap.push {cls:=.type "list",data:=.seq ([]:List Value).toArray}} :=
  I2.laid (t':=s2.toks) (λb u e=>Ac _ e) (Af _) ⟨by show 0<=sizeLine;decide,[],0,.nil,Ai _ rfl⟩
 have f3:∀b∈fp,FpOk X pins (upd H2 s2.heap.objs.size (.lst [])) b:=λb hb=>by
  obtain⟨q0,q⟩:=f2 b hb
  obtain⟨o,e,_⟩:=T.obj _ _ st2 b hb
  exact⟨by rw[jd (Ao (Al e))];exact q0,q⟩
 have o3:∀b∈fp,∃o,(s2.heap.push {cls:=.type "list",data:=.seq ([]:List Value).toArray}).get? b=some o:=λb hb=>by
  obtain⟨o,e,_⟩:=T.obj _ _ st2 b hb
  exact⟨o,Ac _ e⟩
 have st3:tn 0 (s2.heap.push {cls:=.type "list",data:=.seq ([]:List Value).toArray}):=T.keep _ _ _ st2 λb _ o e=>Ac _ e
 generalize hh3:s2.heap.push {cls:=.type "list",data:=.seq ([]:List Value).toArray}=h3 at I3 o3 st3⊢
 refine wpAny_newFunctionEnv c.nocell (by intro y hy;simp at hy) (λh4 hn4 hs4=>?_) c.kind
 have k4:∀b o,h3.get? b=some o->h4.get? b=some o:=λb o e=>(hs4.2 b (Ao (Al e))).trans (Ac _ e)
 have I4:=jig (tk:=s2.toks+([]:List (Str×Value)).length) c I3 f3 o3 hn4 k4
 have st4:tn 0 h4:=T.keep _ _ _ st3 λb _ o e=>k4 b o e
 obtain⟨W,⟨m0,w0⟩,turn⟩:=h2 _ hD
 let s3:Shared:={s2 with heap:=h3}
 let Y:Cx:=X.comp scope h3.objs.size Nc s3 (upd H2 s2.heap.objs.size (.lst [])) fp
 have stat:∀{H':Hp},(∀b∈fp,H' b=none)->∀b∈fp,FpOk Y [] H' b:=λhn b hb=>⟨hn b hb,(I4.ok.exf b hb).1,I4.ok.exfs b hb,.inl hb,(I4.ok.exf b hb).2,(λp hp=>nomatch hp)⟩
 have loop:codeAny (model X.prog X.w) X.A (.compLoop (.ListComp elt [⟨tg,iter,[],0⟩] scope pos) 0 (.ref it) (.ref s2.heap.objs.size) Y.env)
   (RR (.ref s2.heap.objs.size) h3.objs.size) {s2 with heap:=h4,toks:=s2.toks+([]:List (Str×Value)).length}:=by
  refine codeAny_loop rfl (λn s'=>∃i σ' H',Inv Y [] σ' H' s'/\tn i s'.heap/\(∀b∈fp,H' b=none)/\W i n σ' H') (λn s5 hI=>?_) m0 ⟨0,_,_,I4,st4,λb hb=>(f3 b hb).1,w0⟩
  obtain⟨i,σ5,H5,I5,st5,fr5,w5⟩:=hI
  show wpAny _ X.A ((compTurn (.ListComp elt [⟨tg,iter,[],0⟩] scope pos) 0 (.ref it) (.ref s2.heap.objs.size) Y.env).onRaise (λx=>do noteFrame x Y.env;theTreesLotGoes x)) _ _ s5
  refine wpAny_noted (Ox (E:=λ_ _=>False) ?_ (λ_ _ q=>q) λ_ _ z=>z.elim)
  rw[compTurn_list1]
  refine Aa (Wg (Aa ?_))
  rcases turn i n σ5 H5 w5 with⟨stop,qn⟩|⟨go,N,hN,step⟩
  ·refine thn (T.done Y rfl rfl rfl hc i [] s5 σ5 H5 _ I5 (stat fr5) st5 stop) λr s6 ⟨hr,I6⟩=>?_
   subst hr
   refine Ab ?_
   exact fin _ _ s3 fp σ5 H5 s6 I3 f3 I6 qn
  ·refine thn (T.item Y rfl rfl rfl hc i [] s5 σ5 H5 _ I5 (stat fr5) st5 go) λr s6 ⟨u,hr,h6⟩=>?_
   subst hr
   refine Aa (thn h6 λ_ s7 ⟨x,H7,I7,r7,y7,st7,fr7⟩=>?_)
   have I7':=I7.pinned (stat fr7) (T.obj _ _ st7)
   refine Aa (thn (hg _ _ _ _ _ s7 σ5 H7 x u _ I7' r7 (step x H7 y7)) λ_ s8 ⟨σ8,H8,I8,q8⟩=>?_)
   refine Aa (Aa (thn (he _ _ _ _ _ s8 σ8 H8 _ I8 q8) λv s9 ⟨y,H9,I9,r9,ys,e9,z9,n9⟩=>?_))
   refine Aa (thn (jao (X:=Y) _ s9 σ8 H9 (.ref s2.heap.objs.size) [y] (.ref s2.heap.objs.size) [v] (λw H'=>N σ8 H') I9 rfl (.cons r9 .nil) ⟨_,ys,y,rfl,rfl,jcy e9,z9,n9⟩) λw s10 ⟨_,H10,I10,_,n10⟩=>?_)
   refine Ab (Ab ⟨rfl,?_⟩)
   obtain⟨m',hm,w10⟩:=hN σ8 H10 n10
   refine⟨m',hm,i+1,σ8,H10,I10.unpinned,T.keep _ _ _ st7 λb hb o e=>(I10.pin (b,o) (A2 _ (A2 _ (jc1 hb e)))).1,λb hb=>?_,w10⟩
   obtain⟨o,e,d⟩:=T.obj _ _ st7 b hb
   exact(I10.pin (b,o) (A2 _ (A2 _ (jc1 hb e)))).2.1
 exact Yb loop (T.self _ 0 _ _ _ st4 loop)
theorem pe_comp(hc:X.calm=true)(c:CompOk X scope Nc js)(hi:PI X tg iter wi)(hg:∀C s3 H3 fp,PG (X.comp scope C Nc s3 H3 fp) tg g)(he:∀C s3 H3 fp,PE (X.comp scope C Nc s3 H3 fp) elt te)
  (hs:∀x,foldedSetIterable iter X.env x=pure x:=by intro _;rfl):PE X (.ListComp elt [⟨tg,iter,[],0⟩] scope pos) (jdx wi g js te):=by
 intro pins s σ H Q I h
 rw[eval_ListComp]
 refine Uo (use:=none) (g:=⟨tg,iter,[],0⟩) (gs:=[]) rfl hs (jdd (c.has I)) c.kind c.loc
  (jgq (RR:=λacc C=>compPost (model X.prog X.w) X.A X.xe none (EP X pins σ Q) acc C) (NX:=λD H'=>Q (.ref D) H') hc c hi hg he I h λD H3 s3 fp σ5 H5 s6 I3 f3 I6 qn=>?_)
 obtain⟨m,hn,_⟩:=I6.loc
 exact⟨m,hn,λh' hs'=>⟨.ref D,H5,jdk I3 f3 I6 hs',rfl,qn⟩⟩
theorem ps_setc{i:Nat}{y:Str}{py spos:Pos}(hN:X.N.Nodup)(hiN:X.N[i]?=some y)(hy:Loc X.env.scope y)(hc:X.calm=true)(c:CompOk X scope Nc js)(hi:PI X tg iter wi)(hg:∀C s3 H3 fp,PG (X.comp scope C Nc s3 H3 fp) tg g)
  (he:∀C s3 H3 fp,PE (X.comp scope C Nc s3 H3 fp) elt te) (hsw:swapsWith (.ListComp elt [⟨tg,iter,[],0⟩] scope pos) (some (.Name y py)) spos.line X.env=pure true:=by rfl)
  (hs:∀x,foldedSetIterable iter X.env x=pure x:=by intro _;rfl) (hf:X.fn y=true\/X.env.scope.names.lookup y=some .local:=by first|exact .inl rfl|exact .inr rfl|assumption) :
  PS X (.Assign [.Name y py] (.ListComp elt [⟨tg,iter,[],0⟩] scope pos) spos) (tAsg (jdx wi g js te) (jco i)):=by
 intro pins s σ H D I h
 rw[Yi _ _ _ _ hsw]
 refine Aa (Wg (Aa ?_))
 show wpAny _ X.A (do let _ <-comprehension (.ListComp elt [⟨tg,iter,[],0⟩] scope pos) scope X.env _ (newList []) false (eval iter X.env) (some (assign (.Name y py) X.env))) _ _ s
 refine Aa (Ox (Uo (use:=some (assign (.Name y py) X.env)) (g:=⟨tg,iter,[],0⟩) (gs:=[]) (Q:=λ_ s'=>SP X pins D .next s') rfl hs (jdd (c.has I)) c.kind c.loc
  (jgq (RR:=λacc C=>compPost (model X.prog X.w) X.A X.xe (some (assign (.Name y py) X.env)) (λ_ s'=>SP X pins D .next s') acc C) (NX:=λDa H'=>D.nx (σ.set i (some (.ref Da))) H') hc c hi hg he I h λDa H3 s3 fp σ5 H5 s6 I3 f3 I6 qn=>?_))
  (λ_ s' hq=>Ab (Ab hq)) λ_ _ e=>e)
 obtain⟨m,hn,_⟩:=id I6.loc
 have I7:Inv X pins σ H5 s6:=jdk I3 f3 I6 (.refl ..)
 have hC:H5 s3.heap.objs.size=none:=I6.free
 have nL:s3.heap.objs.size≠X.env.locals:=Uk I3.lt
 have nc:∀x a,X.env.cells.lookup x=some a->a≠s3.heap.objs.size:=λx a e=>by
  obtain⟨v,q⟩:=I3.cell x a e
  exact Ao q.lt
 have np:∀p∈X.pn++pins,p.1≠s3.heap.objs.size:=λp hp=>Ao (Al (I3.pin p hp).1)
 show wpAny _ _ (assign (.Name y py) X.env (.ref Da)) _ _ _
 refine W3 (jdw (v:=.ref Da) I7 hN hiN hy rfl (λs8 I8 hb=>?_) hf)
 obtain⟨a,hs8,ha⟩:=hb
 have nCa:s3.heap.objs.size≠a:=by
  rcases ha with z|z
  ·rw[z];exact nL
  ·exact(nc y a z).symm
 refine⟨m,hn.sameBut hs8 nCa,λh9 hs9=>?_⟩
 exact⟨_,H5,I8.turned (t':=s8.toks) (λb o hb e=>(hs9.2 b hb).trans e) hC nL (.inr (Io I3.sz (Af _))) nc np,qn⟩
end
section
variable{X:Cx}
def jgh:List V->Hp->VK->Prop:=λxs H Q=>match xs with
 |[.ref p]=>(∃ys,jcu (H p)=some ys/\∀l,H l=none->Q (.ref l) (upd H l (.tup ys)))\/(∃ys,jez (H p)=some ys/\Q (.ref p) H)
 |_=>False
theorem jas:jct X (.type "tuple") jgh:=by
 intro pins s σ H xs us Q I r h
 unfold jgh at h
 split at h
 ·rename_i p
  rcases h with⟨ys,e,h⟩|⟨ys,e,h⟩
  ·exact jay pins s σ H _ us Q I r ⟨p,ys,rfl,.inl ⟨SqL.of (jcy e),h⟩⟩
  ·exact jay pins s σ H _ us Q I r ⟨p,ys,rfl,.inr ⟨SqT.of (jfd e),h⟩⟩
 ·exact h.elim
theorem je7{p:Addr}{H:Hp}{Q:VK}{ys:List V}(e:H p=some (.lst ys))(h:∀l,H l=none->Q (.ref l) (upd H l (.tup ys))):jgh [.ref p] H Q:=.inl ⟨ys,by rw[e];rfl,h⟩
def jle:R2:=λx y H Q=>match x,y with
 |.int i,.int j=>CMul i j/\Q (.int (i*j)) H
 |.ref l,.int k=>∃xs,jcu (H l)=some xs/\0<=k/\k<2^62/\xs.length*k.toNat<=sizeLine/\∀p,H p=none->Q (.ref p) (upd H p (.lst (List.replicate k.toNat xs).flatten))
 |_,_=>False
theorem y8:OpR X (binaryOp .Mult) jle:=by
 intro pins s σ H x y v u Q I rx ry h
 cases x with
 |int i=>cases y with
  |int j=>exact op_mul pins s σ H _ _ v u Q I rx ry ⟨i,j,rfl,rfl,h⟩
  |_=>exact False.elim h
 |ref l=>cases y with
  |int k =>
   obtain⟨xs,e,k0,k1,h⟩:=h
   exact op_rep pins s σ H _ _ v u Q I rx ry ⟨l,k,xs,rfl,rfl,jcy e,by omega,by omega,h⟩
  |_=>exact False.elim h
 |_=>exact False.elim h
theorem jg9(H:Hp)(Q:VK)(i j:Int):jle (.int i) (.int j) H Q=(CMul i j/\Q (.int (i*j)) H):=rfl
theorem jha(H:Hp)(Q:VK)(l:Addr)(k:Int):jle (.ref l) (.int k) H Q=(∃xs,jcu (H l)=some xs/\0<=k/\k<2^62/\xs.length*k.toNat<=sizeLine/\∀p,H p=none->Q (.ref p) (upd H p (.lst (List.replicate k.toNat xs).flatten))):=rfl
def isS(x:V):Prop:=match x with
 |.str _=>True
 |_=>False
def tBMS(r:V->List V->Hp->VK->Prop)(to:TE)(t:TA):TE:=λσ H Q=>to σ H λx H1=>isS x/\t σ H1 λxs H2=>r x xs H2 Q
theorem isS.ty{K:PySem.W.Frag}{x:V}{H:Hp}(h:isS x):tyV K "str" x H:=by
 unfold isS at h
 split at h
 ·rfl
 ·exact h.elim
theorem jkb(z:Str):isS (.str z)=True:=rfl
theorem jiq{v:V}:∀σ H Q Q',(∀v H',Q v H'->Q' v H')->tC v σ H Q->tC v σ H Q':=λ_ _ _ _ h q=>h _ _ q
variable{o e:Expr}{es:List Expr}{to:TE}{t:TA}{name:Str}{apos cpos:Pos}{id:String}{r:V->List V->Hp->VK->Prop}
theorem pe_bmS(slot:Slot "str" name id)(hty:typeOf (.builtin id)=pure (.type "method_descriptor"))(hm:MtM X id r)(ho:PE X o to)(ha:PA X (e::es) t)(mono:∀σ H Q Q',(∀v H',Q v H'->Q' v H')->to σ H Q->to σ H Q')
  (hbase:attributeBase o name X.env (eval o X.env)=eval o X.env:=by rfl)
  (hfew:((backTo cpos (starEach (e::es) X.env)).all (λx=>!x.1) && (backToKw cpos (keywordEach [] X.env)).all (λx=>x.1.isSome)
   && decide ((e::es).length+([]:List Keyword).length+(if([]:List Keyword).isEmpty then 0 else 1)<30))=true:=by rfl)
  (hline:(apos.endLine == cpos.line)=true:=by rfl) (hs:starEach (e::es) X.env=(false,eval e X.env)::starEach es X.env:=by rfl) (hplain:(backTo cpos (starEach es X.env)).any (·.1)=false:=by rfl) :
  PE X (.Call (.Attribute o name apos) (e::es) [] cpos) (tBMS r to t) :=
 (jcf PySem.F.plainAttrs_str slot hty hm ho ha hbase hfew hline hs hplain).imp λσ H Q h=>mono σ H _ _ (λv H' q=>⟨q.1.ty,q.2⟩) h
theorem jdl:∀{ys:List Str}{us:List Value},Vals (ys.map V.str) us->StrsAre us ys
 |[],us,r=>by rw[Ww]at r;cases r;exact .nil
 |y::ys,us,r=>by
  rw[A9]at r
  cases r with
  |cons r1 r2 =>
   obtain⟨t,rfl⟩:=r1
   exact .cons y t (jdl r2)
def jmt:V->List V->Hp->VK->Prop:=λx vs H Q=>match x,vs with
 |.str z,[.ref p]=>∃ys:List Str,H p=some (.lst (ys.map V.str))/\(ys.map (·.length)).sum+ys.length*z.length<=16777216/\Q (.str (Txt.join z ys)) H
 |_,_=>False
theorem ja9:MtM X "str.join" jmt:=by
 intro pins s σ H x vs v us Q I rx rv h
 unfold jmt at h
 split at h
 ·rename_i z p
  obtain⟨ys,e,hz,q⟩:=h
  obtain⟨t,rfl⟩:=rx
  obtain⟨u,rfl,ru⟩:=rv.one
  cases ru
  obtain⟨its,rr,pl,_⟩:=I.list (SqL.of e)
  exact join_list pl.isList (by simpa using jdl rr) hz λt' k=>⟨.str _,H,I.tok k,⟨_,rfl⟩,q⟩
 ·exact h.elim
def cutS(z:Str)(lo hi:Option Int):Str:=⟨((z.cps.toList.drop (HT.sIx z.length 0 lo)).take (HT.sIx z.length z.length hi-HT.sIx z.length 0 lo)).toArray⟩
theorem jjj(lo hi:Option Int)(n:Nat):Builtin.Str.strSliceIndices lo hi 1 n=(List.range (HT.sIx n n hi-HT.sIx n 0 lo)).map (HT.sIx n 0 lo+·):=by
 rw[<-sliceRange_one]
 unfold Builtin.Str.strSliceIndices
 have e1:(match lo with|none=>(if(1:Int)>0 then(0:Int)else(n:Int)-1)|some i=>let i:=if i<0 then i+(n:Int)else i;if(1:Int)>0 then max 0 (min i (n:Int))else max (-1) (min i ((n:Int)-1)))=((HT.sIx n 0 lo:Nat):Int):=by
  cases lo with
  |none=>simp[HT.sIx]
  |some v =>
   simp only[show(1:Int)>0 by decide,Uj,HT.sIx]
   by_cases h:v<0
   ·simp only[h,Uj];omega
   ·simp only[h,O6];omega
 have e2:(match hi with|none=>(if(1:Int)>0 then(n:Int)else -1)|some i=>let i:=if i<0 then i+(n:Int)else i;if(1:Int)>0 then max 0 (min i (n:Int))else max (-1) (min i ((n:Int)-1)))=((HT.sIx n n hi:Nat):Int):=by
  cases hi with
  |none=>simp[HT.sIx]
  |some v =>
   simp only[show(1:Int)>0 by decide,Uj,HT.sIx]
   by_cases h:v<0
   ·simp only[h,Uj];omega
   ·simp only[h,O6];omega
 have key:∀a b a' b':Int,a=a'->b=b'->sliceRange a b 1=sliceRange a' b' 1:=by
  intro a b a' b' h1 h2
  rw[h1,h2]
 exact key _ _ _ _ e1 e2
theorem jj1(z:Str)(lo hi:Option Int):Txt.slice z lo hi=cutS z lo hi:=by
 have e:(Builtin.Str.strSliceIndices lo hi 1 z.length).filterMap (z.cps[·]?)=(z.cps.toList.drop (HT.sIx z.length 0 lo)).take (HT.sIx z.length z.length hi-HT.sIx z.length 0 lo):=by
  rw[jjj,pick_run]
 unfold Txt.slice cutS
 split
 ·rename_i h
  have h2:((Builtin.Str.strSliceIndices lo hi 1 z.length).length == z.length)=true:=by simpa using h
  have h3:(Builtin.Str.strSliceIndices lo hi 1 z.length).length=z.length:=eq_of_beq h2
  rw[jjj,Ad,List.length_range]at h3
  have hl:z.cps.toList.length=z.length:=by simp[Str.length]
  have q:((z.cps.toList.drop (HT.sIx z.length 0 lo)).take (HT.sIx z.length z.length hi-HT.sIx z.length 0 lo))=z.cps.toList:=by
   have hb:HT.sIx z.length z.length hi<=z.length:=by
    cases hi with
    |none=>exact Af _
    |some v=>simp only[HT.sIx];split <;> omega
   by_cases h0:z.length=0
   ·have:z.cps.toList=[]:=Ud.mp (by omega)
    rw[this];simp
   ·have ha:HT.sIx z.length 0 lo=0:=by omega
    rw[h3,ha,List.drop_zero]
    exact Iq (by omega)
  rw[q]
 ·rw[e]
def rSlS:V->Option Int->Option Int->Hp->VK->Prop:=λx lo hi H Q=>∃z,x=.str z/\z.length<=sizeLine/\Q (.str (cutS z lo hi)) H
theorem sl_str:SlR X rSlS:=by
 intro pins s σ H x v vl vu lo hi sl Q I rx hs pl pu h
 obtain⟨z,rfl,hz,q⟩:=h
 obtain⟨t,rfl⟩:=rx
 have gen:∀(l u:Option (Int×Tok)),vl=partValue l->vu=partValue u->lo=l.map (·.1)->hi=u.map (·.1) ->
   wpAny (model X.prog X.w) X.A (getItem (.str z t) (.ref sl)) (EP X pins σ Q) X.xe s:=by
  intro l u e1 e2 e3 e4
  subst e1 e2 e3 e4
  refine wpAny_getItem_str_slice (l:=l) (u:=u) (st:=none) hs (by rfl) ?_
  have e:(if((((none:Option (Int×Tok)).map (·.1)).getD 1 == 1 && (slicePicked z l u none).length == z.length)=true)then z else⟨((slicePicked z l u none).filterMap (z.cps[·]?)).toArray⟩)=cutS z (l.map (·.1)) (u.map (·.1)):=by
   rw[<-jj1];rfl
  refine post_val_or_str ⟨?_,λt' c=>⟨.str (cutS z (l.map (·.1)) (u.map (·.1))),H,I.tok c,⟨t',Ob (Value.str · t') e⟩,q⟩⟩
  rw[e,<-jj1]
  exact Io (Txt.slice_le _ _ _) hz
 refine⟨"str",_,F.slot_str_getitem.lookup,typeIs_str _ _ _,?_⟩
 cases pl with
 |none=>cases pu with
  |none=>exact gen none none rfl rfl rfl rfl
  |int j tj=>exact gen none (some (j,tj)) rfl rfl rfl rfl
 |int i ti=>cases pu with
  |none=>exact gen (some (i,ti)) none rfl rfl rfl rfl
  |int j tj=>exact gen (some (i,ti)) (some (j,tj)) rfl rfl rfl rfl
def jj0(sc:Scope)(N:List Str)(scope:Scope)(Nc:List Str)(js:List (Option Nat)):Bool :=
 (scope.kind == .function) && scope.names.all (λy=>!(y.2 == .cell)) && scope.names.all (λy=>!(y.2 == .local) || scope.names.lookup y.1 == some .local) &&
 scope.names.all (λy=>!(y.2 == .free) || ((sc.names.lookup y.1 == some .cell || sc.names.lookup y.1 == some .free) && !(scope.names.lookup y.1 == some .local))) && (js.length == Nc.length) &&
 (List.range js.length).all (λi=>match js[i]? with
  |some (some j)=>(N[j]? == Nc[i]?) && (match Nc[i]? with|some x=>scope.names.any (λy=>y.1 == x && y.2 == .free)|none=>true)
  |_=>true)
theorem jch{sc scope:Scope}{N Nc:List Str}{js:List (Option Nat)}(hd:jj0 sc N scope Nc js=true)(hsc:X.env.scope=sc:=by rfl)(hN:X.N=N:=by rfl):CompOk X scope Nc js:=by
 simp only[jj0,Iz,Yg,Bool.or_eq_true,Bool.not_eq_true',Us,Ub]at hd
 obtain⟨⟨⟨⟨⟨h1,h2⟩,h3⟩,h4⟩,h5⟩,h6⟩:=hd
 have kk:∀x,X.env.kindOf x=sc.names.lookup x:=λx=>by rw[<-hsc];rfl
 refine⟨h1,λy hy e=>?_,λy hy e=>?_,λy hy e=>?_,h5,λx hx=>?_,λi j x e1 e2=>?_⟩
 ·have:=h2 y hy
  rw[e]at this;cases this
 ·rcases h3 y hy with q|q
  ·rw[e]at q;cases q
  ·exact q
 ·rcases h4 y hy with q|q
  ·rw[e]at q;cases q
  ·rw[kk]
   exact q.1
 ·rcases h4 _ hx with q|q
  ·cases q
  ·intro z
   have q2:=q.2
   rw[z]at q2
   cases q2
 ·have hi:i<js.length:=(Ag.mp e1).1
  have q:=h6 i hi
  rw[e1,e2]at q
  simp only[Iz,Us,O0]at q
  refine⟨by rw[hN];exact q.1,?_⟩
  obtain⟨y,hy,hy1,hy2⟩:=q.2
  obtain⟨a,b⟩:=y
  simp only at hy1 hy2
  subst hy1 hy2
  exact hy
end
theorem Inv.turnedNew{X:Cx}{pins:List (Addr×Obj)}{σ:L2.St}{H:Hp}{s:Shared}{h':Heap}{t':Nat}{fp wr:List Addr}{T:Addr}{xs:List V}{vs:List Value}(I:Inv X pins σ H s)(hf:∀b∈wr,FpOk X pins H b)
  (k:∀b o,b∉wr->s.heap.get? b=some o->h'.get? b=some o) (hT:s.heap.objs.size<=T) (tup:IsTup h' T vs.toArray) (r:Vals xs vs) (hz:xs.length<=sizeLine) (there:∀b∈wr,∃o,h'.get? b=some o) :
  Inv X pins σ (upd H T (.tup xs)) {s with heap:=h',toks:=t'}:=by
 have neT:∀b u,H b=some u->b≠T:=λb u e=>Ao (A0 (I.hok.lt e) hT)
 have nw:∀b u,H b=some u->b∉wr:=λb u e hb=>by rw[(hf b hb).1]at e;cases e
 refine I.step (g':=s.gens) (d':=s.drawn) (ch:=wr) (λb hb=>?_) (λb o _ _ hc e _=>k b o hc e) (λb o _ _ hc e _=>⟨o.slots,k b o hc e⟩) (λb o hc e n=>?_) (λb o hc e=>⟨o,k b o hc e⟩)
  (λb ys e=>by rw[jd (neT b _ e)];exact e) (λb o u e=>by rw[jd (neT b _ e)];exact e) (λb ps e=>⟨#[],by rw[jd (neT b _ e),e];simp⟩) (λm hm=>?_) (λb u e=>?_) I.bare
 ·obtain⟨_,f1,_,f3,f4,f5⟩:=hf b hb
  exact⟨f3,f1,f4,f5⟩
 ·rw[jd (Ao (A0 (Al e) hT))];exact n
 ·obtain⟨o,es,ep,ho,rr⟩:=hm
  exact⟨o,es,ep,k _ o (λz=>(hf _ z).2.1 rfl) ho,rr⟩
 ·by_cases hb:b=T
  ·subst hb
   rw[jb]at e
   cases e
   exact⟨hz,vs,r,tup⟩
  ·rw[jd hb]at e
   refine(I.hok b u e).stay (λd v hd q=>k d v ?_ q) (λd q=>by rw[jd (neT d _ q)];exact q) λd ys q=>by rw[jd (neT d _ q)];exact q
   rcases hd with rfl|hd
   ·exact nw _ _ e
   ·exact nw _ _ hd
section
variable{X:Cx}
def rAddW:R2:=λx y H Q=>match x,y with
 |.int i,.int j=>Q (.int (i+j)) H
 |.str i,.str j=>i.length+j.length<=sizeLine/\Q (.str (i++j)) H
 |.ref l,.ref b=>(∃xs zs,jcu (H l)=some xs/\jcu (H b)=some zs/\xs.length+zs.length<=sizeLine/\∀p,H p=none->Q (.ref p) (upd H p (.lst (xs++zs)))) \/
   (∃xs zs,jez (H l)=some xs/\jez (H b)=some zs/\xs≠[]/\zs≠[]/\xs.length+zs.length<=sizeLine/\∀p,H p=none->Q (.ref p) (upd H p (.tup (xs++zs))))
 |_,_=>False
theorem j8:OpR X (binaryOp .Add) rAddW:=by
 intro pins s σ H x y v u Q I rx ry h
 cases x with
 |int i=>cases y with
  |int j=>exact op_add pins s σ H _ _ v u Q I rx ry ⟨i,j,rfl,rfl,h⟩
  |_=>exact False.elim h
 |str i=>cases y with
  |str j=>exact op_add_str pins s σ H _ _ v u Q I rx ry ⟨i,j,rfl,rfl,h⟩
  |_=>exact False.elim h
 |ref l=>cases y with
  |ref b =>
   rcases h with⟨xs,zs,e1,e2,h⟩|⟨xs,zs,e1,e2,n1,n2,hz,h⟩
   ·exact op_cat pins s σ H _ _ v u Q I rx ry ⟨l,b,xs,zs,rfl,rfl,jcy e1,jcy e2,h⟩
   ·exact jb3 pins s σ H _ _ v u Q I rx ry ⟨l,b,xs,zs,rfl,rfl,SqT.of (jfd e1),SqT.of (jfd e2),n1,hz,λz=>absurd z n2,λ_=>h⟩
  |_=>exact False.elim h
 |_=>exact False.elim h
theorem jg1(H:Hp)(Q:VK)(i j:Int):rAddW (.int i) (.int j) H Q=(Q (.int (i+j)) H):=rfl
theorem jg2(H:Hp)(Q:VK)(i j:Str):rAddW (.str i) (.str j) H Q=(i.length+j.length<=sizeLine/\Q (.str (i++j)) H):=rfl
theorem rAddW.lst{H:Hp}{Q:VK}{l b:Addr}{xs zs:List V}(e1:H l=some (.lst xs))(e2:H b=some (.lst zs))(hz:xs.length+zs.length<=sizeLine)
  (h:∀p,H p=none->Q (.ref p) (upd H p (.lst (xs++zs)))):rAddW (.ref l) (.ref b) H Q:=.inl ⟨xs,zs,by rw[e1];rfl,by rw[e2];rfl,hz,h⟩
end
section
variable{X:Cx}
def rSlU(K:PySem.W.Frag):V->Option Int->Option Int->Hp->VK->Prop:=λx lo hi H Q=>match x with
 |.str z=>z.length<=sizeLine/\Q (.str (cutS z lo hi)) H
 |.ref a=>(∃xs,SqL K H a xs/\∀p,H p=none->Q (.ref p) (upd H p (.lst (cutV xs lo hi)))) \/
   ∃xs,SqT K H a xs/\¬(HT.sIx xs.length 0 lo=0/\HT.sIx xs.length xs.length hi=xs.length)/\∀p,H p=none->Q (.ref p) (upd H p (.tup (cutV xs lo hi)))
 |_=>False
theorem sl_U:SlR X (rSlU X.K):=by
 intro pins s σ H x v vl vu lo hi sl Q I rx hs pl pu h
 unfold rSlU at h
 split at h
 ·rename_i z
  exact sl_str pins s σ H (.str z) v vl vu lo hi sl Q I rx hs pl pu ⟨z,rfl,h⟩
 ·rename_i a
  rcases h with⟨xs,hx,q⟩|⟨xs,hx,nw,q⟩
  ·exact sl_list pins s σ H (.ref a) v vl vu lo hi sl Q I rx hs pl pu ⟨a,xs,rfl,hx,q⟩
  ·exact sl_tup pins s σ H (.ref a) v vl vu lo hi sl Q I rx hs pl pu ⟨a,xs,rfl,hx,nw,q⟩
 ·exact h.elim
theorem ji8(K:PySem.W.Frag)(H:Hp)(Q:VK)(z:Str)(lo hi:Option Int):rSlU K (.str z) lo hi H Q=(z.length<=sizeLine/\Q (.str (cutS z lo hi)) H):=rfl
theorem rSlU.lst{K:PySem.W.Frag}{H:Hp}{Q:VK}{a:Addr}{xs:List V}{lo hi:Option Int}(e:H a=some (.lst xs))(h:∀p,H p=none->Q (.ref p) (upd H p (.lst (cutV xs lo hi)))):rSlU K (.ref a) lo hi H Q:=.inl ⟨xs,SqL.of e,h⟩
theorem rSlU.tup{K:PySem.W.Frag}{H:Hp}{Q:VK}{a:Addr}{xs:List V}{lo hi:Option Int}(e:H a=some (.tup xs))(nw:¬(HT.sIx xs.length 0 lo=0/\HT.sIx xs.length xs.length hi=xs.length))(h:∀p,H p=none->Q (.ref p) (upd H p (.tup (cutV xs lo hi)))):rSlU K (.ref a) lo hi H Q:=.inr ⟨xs,SqT.of e,nw,h⟩
end
section
variable{X:Cx}
def hasS(z y:Str):Bool:=!(Builtin.Str.occurrences z y 0 z.length 1).isEmpty
def rInU(K:PySem.W.Frag)(neg:Bool):R2:=λx y H Q=>match x,y with
 |.str i,.str j=>Q (.bl (if neg then !hasS j i else hasS j i)) H
 |x,.ref p=>∃xs,(SqL K H p xs\/SqT K H p xs)/\jc5 x=true/\xs.all jc5=true/\Q (.bl (if neg then !inV x xs else inV x xs)) H
 |_,_=>False
theorem jiz(K:PySem.W.Frag)(neg:Bool)(H:Hp)(Q:VK)(i j:Str):rInU K neg (.str i) (.str j) H Q=Q (.bl (if neg then !hasS j i else hasS j i)) H:=rfl
theorem ja1{K:PySem.W.Frag}(hK:X.K=K):OpR X (compareOp .In) (rInU K false):=by
 subst hK
 intro pins s σ H x y v u Q I rx ry h
 unfold rInU at h
 split at h
 ·rename_i i j
  exact op_in_str pins s σ H _ _ v u Q I rx ry ⟨i,j,rfl,rfl,h⟩
 ·rename_i p
  obtain⟨xs,h⟩:=h
  exact op_in_seq pins s σ H _ _ v u Q I rx ry ⟨p,xs,rfl,h⟩
 ·exact h.elim
theorem op_notinU{K:PySem.W.Frag}(hK:X.K=K):OpR X (compareOp .NotIn) (rInU K true):=by
 subst hK
 intro pins s σ H x y v u Q I rx ry h
 unfold rInU at h
 split at h
 ·rename_i i j
  exact op_notIn_str pins s σ H _ _ v u Q I rx ry ⟨i,j,rfl,rfl,h⟩
 ·rename_i p
  obtain⟨xs,h⟩:=h
  exact op_notIn_seq pins s σ H _ _ v u Q I rx ry ⟨p,xs,rfl,h⟩
 ·exact h.elim
theorem rInU.lst{K:PySem.W.Frag}{neg:Bool}{H:Hp}{Q:VK}{x:V}{p:Addr}{xs:List V}(e:H p=some (.lst xs))(fx:jc5 x=true)(fs:xs.all jc5=true)(q:Q (.bl (if neg then !inV x xs else inV x xs)) H):rInU K neg x (.ref p) H Q:=by
 cases x <;> exact⟨xs,.inl (SqL.of e),fx,fs,q⟩
theorem rInU.tupS{K:PySem.W.Frag}{neg:Bool}{H:Hp}{Q:VK}{x:V}{p:Addr}{xs:List V}(e:SqT K H p xs)(fx:jc5 x=true)(fs:xs.all jc5=true)(q:Q (.bl (if neg then !inV x xs else inV x xs)) H):rInU K neg x (.ref p) H Q:=by
 cases x <;> exact⟨xs,.inr e,fx,fs,q⟩
theorem jfz(bs:List Bool)(d:Bool):(List.range bs.length).map (λi=>(bs[i]?).getD d)=bs:=by
 apply List.ext_getElem?
 intro i
 by_cases h:i<bs.length
 ·simp[h]
 ·rw[List.getElem?_eq_none_iff.mpr (by simp;omega),List.getElem?_eq_none_iff.mpr (by omega)]
theorem jea:∀{bs:List Bool}{us:List Value},Vals (bs.map V.bl) us->∀(i:Nat)(v:Value),us[i]?=some v->∃b,bs[i]?=some b/\v=.bool b
 |[],us,r,i,v,e=>by rw[Ww]at r;cases r;simp at e
 |b::bs,us,r,i,v,e=>by
  rw[A9]at r
  cases r with
  |cons r1 r2 =>
   cases i with
   |zero=>cases r1;simp at e;exact⟨b,rfl,e.symm⟩
   |succ i=>simp at e;obtain⟨b',e1,e2⟩:=jea r2 i v e;exact⟨b',by simpa using e1,e2⟩
def jlb:List V->Hp->VK->Prop:=λxs H Q=>match xs with
 |[.ref p]=>∃bs:List Bool,H p=some (.lst (bs.map V.bl))/\Q (.bl (bs.all id)) H
 |_=>False
def jlc:List V->Hp->VK->Prop:=λxs H Q=>match xs with
 |[.ref p]=>∃bs:List Bool,H p=some (.lst (bs.map V.bl))/\Q (.bl (bs.any id)) H
 |_=>False
theorem jkd{s:Shared}{h':Heap}{o:Obj}(hk:∀b x,b∉[s.heap.objs.size]->(s.heap.push o).get? b=some x->h'.get? b=some x):∀b x,s.heap.get? b=some x->h'.get? b=some x :=
 λb x e=>hk b x (λhm=>by rw[Ah.mp hm]at e;exact O8 _ (Al e)) (Ac _ e)
theorem call_allU(hc:X.calm=true):jct X (.builtin "all") jlb:=by
 intro pins s σ H xs us Q I r h
 unfold jlb at h
 split at h
 ·rename_i p
  obtain⟨bs,e,q⟩:=h
  obtain⟨u,rfl,ru⟩:=jc6 r
  cases ru
  obtain⟨its,rr,pl,_⟩:=I.list (SqL.of e)
  have isl:=pl.isList
  have plt:p<s.heap.objs.size:=by obtain⟨_,e,_⟩:=isl;exact Al e
  refine call_all_walk (O3 isl ?_)
  refine⟨s.heap.objs.size,[s.heap.objs.size,p],[s.heap.objs.size],its.toArray.size,_,_,λi=>(bs[i]?).getD true,rfl,Ys (A:=X.A.in1) (I.ok.hd hc) _ p (Ao plt) its.toArray,
   ⟨⟨_,Ai _ rfl,rfl,rfl⟩,isl.push _⟩,λi v s' Q' E' hp hq=>?_,λh' tk hk=>?_⟩
  ·obtain⟨b,e,rfl⟩:=jea rr i v (by simpa using hp)
   simp only[Option.getD_some,e]at hq
   exact Oi hq
  ·have e:((List.range its.toArray.size).all λi=>(bs[i]?).getD true)=bs.all id:=by
    have hlen:its.length=bs.length:=by have:=rr.length;simpa using this.symm
    rw[Aj,hlen]
    conv=>rhs;rw[<-jfz bs true,List.all_map]
    rfl
   rw[e]
   exact⟨.bl _,H,I.kept (jkd hk),rfl,q⟩
 ·exact h.elim
theorem call_anyU(hc:X.calm=true):jct X (.builtin "any") jlc:=by
 intro pins s σ H xs us Q I r h
 unfold jlc at h
 split at h
 ·rename_i p
  obtain⟨bs,e,q⟩:=h
  obtain⟨u,rfl,ru⟩:=jc6 r
  cases ru
  obtain⟨its,rr,pl,_⟩:=I.list (SqL.of e)
  have isl:=pl.isList
  have plt:p<s.heap.objs.size:=by obtain⟨_,e,_⟩:=isl;exact Al e
  refine call_any_walk (O3 isl ?_)
  refine⟨s.heap.objs.size,[s.heap.objs.size,p],[s.heap.objs.size],its.toArray.size,_,_,λi=>(bs[i]?).getD false,rfl,Ys (A:=X.A.in1) (I.ok.hd hc) _ p (Ao plt) its.toArray,
   ⟨⟨_,Ai _ rfl,rfl,rfl⟩,isl.push _⟩,λi v s' Q' E' hp hq=>?_,λh' tk hk=>?_⟩
  ·obtain⟨b,e,rfl⟩:=jea rr i v (by simpa using hp)
   simp only[Option.getD_some,e]at hq
   exact Oi hq
  ·have e:((List.range its.toArray.size).any λi=>(bs[i]?).getD false)=bs.any id:=by
    have hlen:its.length=bs.length:=by have:=rr.length;simpa using this.symm
    rw[Aj,hlen]
    conv=>rhs;rw[<-jfz bs false,List.any_map]
    rfl
   rw[e]
   exact⟨.bl _,H,I.kept (jkd hk),rfl,q⟩
 ·exact h.elim
theorem jg3(p:Addr)(H:Hp)(Q:VK):jlb [.ref p] H Q=(∃bs:List Bool,H p=some (.lst (bs.map V.bl))/\Q (.bl (bs.all id)) H):=rfl
theorem jg4(p:Addr)(H:Hp)(Q:VK):jlc [.ref p] H Q=(∃bs:List Bool,H p=some (.lst (bs.map V.bl))/\Q (.bl (bs.any id)) H):=rfl
end
theorem je0{H:Hp}{D:Addr}{a b:HO}:upd (upd H D a) D b=upd H D b:=jdb
section
variable{D:Addr}{te:TE}{E:Ends}{r:L2.St}{H:Hp}
theorem jni{z:Str}(f:Nat->V)(hz:z.length<=sizeLine)(he:∀c∈z.cps.toList,∀l Q,Q (f c) (upd H D (.lst l))->te (some (.str ⟨#[c]⟩)::r) (upd H D (.lst l)) Q)
  (hn:∀v,E.nx (v::r) (upd H D (.lst (z.cps.toList.map f)))):jcn (ItS z) (jco 0) (jc3 D te) E (none::r) (upd H D (.lst [])):=by
 have hzl:z.cps.toList.length=z.length:=by simp[Str.length]
 refine jnv (λi σ H'=>∃v:Option V,σ=v::r/\H'=upd H D (.lst ((z.cps.toList.take i).map f))) ⟨none,rfl,rfl⟩ ?_ ?_
 ·rintro i c σ H' hc ⟨v,rfl,rfl⟩
  have hl:i<z.cps.toList.length:=(Ag.mp hc).1
  refine he c (A6 hc) _ _ ⟨_,by rw[jb];rfl,by simp;omega,some (.str ⟨#[c]⟩),rfl,?_⟩
  rw[je0,O2,hc]
  simp
 ·rintro σ H' ⟨v,rfl,rfl⟩
  rw[Iq (by omega)]
  exact hn v
theorem jed{K:PySem.W.Frag}{a:Addr}{xs:List V}(f:V->V)(ha:H a=some (.lst xs))(hD:H D=none)(hz:xs.length<=sizeLine)(he:∀x∈xs,∀l Q,Q (f x) (upd H D (.lst l))->te (some x::r) (upd H D (.lst l)) Q)
  (hn:∀v,E.nx (v::r) (upd H D (.lst (xs.map f)))):jcn (Itl K a) (jco 0) (jc3 D te) E (none::r) (upd H D (.lst [])):=by
 have ne:a≠D:=je ha hD
 refine jcs (xs:=xs) (λi σ H'=>∃v:Option V,σ=v::r/\H'=upd H D (.lst ((xs.take i).map f))) ⟨none,rfl,rfl⟩ ?_ ?_ ?_
 ·rintro i σ H' _ ⟨v,_,rfl⟩
  rw[jd ne];exact ha
 ·rintro i x σ H' hx ⟨v,rfl,rfl⟩
  have hl:i<xs.length:=(Ag.mp hx).1
  refine he x (A6 hx) _ _ ⟨_,by rw[jb];rfl,by simp;omega,some x,rfl,?_⟩
  rw[je0,O2,hx]
  simp
 ·rintro σ H' ⟨v,rfl,rfl⟩
  rw[Iq (Af _)]
  exact hn v
theorem jih{K:PySem.W.Frag}{a:Addr}{xs:List V}(f:V->V)(ha:H a=some (.tup xs))(hD:H D=none)(hz:xs.length<=sizeLine)(he:∀x∈xs,∀l Q,Q (f x) (upd H D (.lst l))->te (some x::r) (upd H D (.lst l)) Q)
  (hn:∀v,E.nx (v::r) (upd H D (.lst (xs.map f)))):jcn (Itt K a) (jco 0) (jc3 D te) E (none::r) (upd H D (.lst [])):=by
 have ne:a≠D:=je ha hD
 refine jds (xs:=xs) (λi σ H'=>∃v:Option V,σ=v::r/\H'=upd H D (.lst ((xs.take i).map f))) ⟨none,rfl,rfl⟩ ?_ ?_ ?_
 ·rintro i σ H' _ ⟨v,_,rfl⟩
  rw[jd ne];exact ha
 ·rintro i x σ H' hx ⟨v,rfl,rfl⟩
  have hl:i<xs.length:=(Ag.mp hx).1
  refine he x (A6 hx) _ _ ⟨_,by rw[jb];rfl,by simp;omega,some x,rfl,?_⟩
  rw[je0,O2,hx]
  simp
 ·rintro σ H' ⟨v,rfl,rfl⟩
  rw[Iq (Af _)]
  exact hn v
end
end L2
set_option autoImplicit true
set_option relaxedAutoImplicit true
namespace L2
open PySem PySem.Spec PyProof.Rows
structure QE(X:Cx)(e:Expr)(t:TE):Prop where
 h:PE X e t
structure QT(X:Cx)(e:Expr)(t:TT):Prop where
 h:PT X e t
structure QW(X:Cx)(e:Expr)(t:TT):Prop where
 h:PW X e t
structure QA(X:Cx)(es:List Expr)(t:TA):Prop where
 h:PA X es t
structure QS(X:Cx)(st:Stmt)(t:TS):Prop where
 h:PS X st t
structure QSs(X:Cx)(st:List Stmt)(t:TS):Prop where
 h:PSs X st t
structure QG(X:Cx)(e:Expr)(t:TG):Prop where
 h:PG X e t
structure QGs(X:Cx)(es:List Expr)(t:TGs):Prop where
 h:PGs X es t
structure QI(X:Cx)(tg iter:Expr)(wi:TI):Prop where
 h:PI X tg iter wi
structure QO(X:Cx)(e:Option Expr)(t:TO):Prop where
 h:PO X e t
structure QC(X:Cx)(op:CmpOp)(a b:Expr)(t:TE):Prop where
 h:PC X op a b t
theorem ju:QSs X [] jh6:=⟨pss_nil⟩
theorem ji(h1:QS X stm t):QSs X [stm] t:=⟨pss_one h1.h⟩
theorem jg(h1:QS X stm t)(h2:QSs X rst u):QSs X (stm::rst) (tSeq t u):=⟨pss_cons h1.h h2.h⟩
theorem qpv(i:Nat){x:Str}{pos:Pos}(hN:X.N[i]?=some x:=by rfl)(hv:Vis X.env.scope x:=by first|exact Or.inl rfl|exact Or.inr (Or.inl rfl)|exact Or.inr (Or.inr rfl))
  (hd:(x == ("__debug__":Str))=false:=by decide) (hcd:(x == ("__classdict__":Str))=false:=by decide):QE X (.Name x pos) (tVar i):=⟨pv i hN hv hd hcd⟩
theorem jf:QE X (.Constant (.int i) j pos) (tC (.int i)):=⟨pe_int⟩
theorem ja2:QE X (.Constant (.bool b) j pos) (tC (.bl b)):=⟨pe_bl⟩
theorem jm:QE X (.Constant (.str x) j pos) (tC (.str x)):=⟨pe_str⟩
theorem qpe_glob{x:Str}{v:V}{u:Value}{pos:Pos}(hg:Gl X x)(hm:X.mg x=some u)(r:RelV v u)(hd:(x == ("__debug__":Str))=false:=by decide):QE X (.Name x pos) (tC v):=⟨pe_glob hg hm r hd⟩
theorem jbt{x:Str}{v:V}{u:Value}{pos:Pos}(hg:Gl X x)(hm:X.mg x=none)(hv:bootBuiltins x=some u)(r:RelV v u)(hn:x≠"__name__":=by decide)(hd:(x == ("__debug__":Str))=false:=by decide) :
  QE X (.Name x pos) (tC v):=⟨pe_bltn hg hm hv r hn hd⟩
theorem jq(ho:OpR X (binaryOp op) r)(ha:QE X a ta)(hb:QE X b tb):QE X (.BinOp a op b pos) (tOp r ta tb):=⟨pe_op ho ha.h hb.h⟩
theorem jb7(ha:QE X a ta):QE X (.UnaryOp .Not a pos) (jh7 ta):=⟨pe_not ha.h⟩
theorem jbd(ho:UnR X (unaryOp op) r)(ha:QE X a ta):QE X (.UnaryOp op a pos) (tUn r ta):=⟨pe_un ho ha.h⟩
theorem y4(ho:OpR X (compareOp op) r)(ha:QE X a ta)(hb:QE X b tb)(hm:behindInMarks op b=false):QE X (.Compare a [op] [b] pos) (tOp r ta tb):=⟨pe_cmpR ho ha.h hb.h hm⟩
theorem jn(ho:OpR X (compareOp op) r)(ha:QE X a ta)(hb:QE X b tb)(hm:behindInMarks op b=false):QT X (.Compare a [op] [b] pos) (jh9 (tOp r ta tb)):=⟨pt_cmpR ho ha.h hb.h hm⟩
theorem jca(h:QC X op a b t)(h1:behindInMarks op b=false:=by first|exact nobehind _ (by decide) (by decide)|rfl):QT X (.Compare a [op] [b] pos) (tB t):=⟨pt_cmp h.h h1⟩
theorem jcb(ha:QT X a tA):QT X (.UnaryOp .Not a pos) (tNot tA):=⟨pt_not ha.h⟩
theorem QW.pt(h:QW X e t):QT X e t:=⟨PW.pt h.h⟩
theorem jbk(ha:QT X a tA)(hb:QW X (.BoolOp .And (b::rst) pos) tB'):QW X (.BoolOp .And (a::b::rst) pos) (tAnd tA tB'):=⟨pw_and ha.h hb.h⟩
theorem jal(ha:QT X a tA)(hb:QW X (.BoolOp .Or (b::rst) pos) tB'):QW X (.BoolOp .Or (a::b::rst) pos) (tOr tA tB'):=⟨pw_or ha.h hb.h⟩
theorem jb1(ha:QT X a tA):QW X (.BoolOp .And [a] pos) tA:=⟨pw_and1 ha.h⟩
theorem z8(ha:QT X a tA):QW X (.BoolOp .Or [a] pos) tA:=⟨pw_or1 ha.h⟩
theorem jbj{e:Expr}(h:QE X e t)(he:∀whole,isTrue e X.env whole=(do let v <-whole;standAt e.pos;holding [v] (truthy v)):=by intro _;rfl):QT X e (tB t):=⟨pt_val h.h he⟩
theorem z6(h:QE X a t):QE X (.BoolOp op [a] pos) t:=⟨pe_one h.h⟩
theorem jau(ha:QE X a ta)(hb:QE X (.BoolOp .And (b::rst) pos) tb):QE X (.BoolOp .And (a::b::rst) pos) (jeu ta tb):=⟨pe_and ha.h hb.h⟩
theorem jbu(ha:QE X a ta)(hb:QE X (.BoolOp .Or (b::rst) pos) tb):QE X (.BoolOp .Or (a::b::rst) pos) (tOrV ta tb):=⟨pe_or ha.h hb.h⟩
theorem j5(h:QA X es t):QE X (.List es pos) (tLst t):=⟨pe_lst h.h⟩
theorem j9(h:QA X es t):QE X (.Tuple es x1 pos) (tTup t):=⟨pe_tup h.h⟩
theorem zu(hr:SlR X r)(he:QE X e te)(hl:QO X lw tl)(hu:QO X hi th):QE X (.Subscript e (.Slice lw hi none p2) pos) (tSl r te tl th):=⟨pe_slice hr he.h hl.h hu.h⟩
theorem z7:QO X none jex:=⟨po_none⟩
theorem zv(h:QE X e te):QO X (some e) (jh8 te):=⟨po_some h.h⟩
theorem jk(hr:IxR X r)(ha:QE X a ta)(hb:QE X b tb)(hs:jjy b):QE X (.Subscript a b pos) (tOp r ta tb):=⟨pe_ix hr ha.h hb.h hs⟩
theorem yc(hc:X.calm=true)(c:CompOk X scope Nc js)(hi:QI X tg iter wi)(hg:∀C s3 H3 fp,QG (X.comp scope C Nc s3 H3 fp) tg g)(he:∀C s3 H3 fp,QE (X.comp scope C Nc s3 H3 fp) elt te)
  (hs:∀x,foldedSetIterable iter X.env x=pure x:=by intro _;rfl):QE X (.ListComp elt [⟨tg,iter,[],0⟩] scope pos) (jdx wi g js te):=⟨pe_comp hc c hi.h (λC s H f=>(hg C s H f).h) (λC s H f=>(he C s H f).h) hs⟩
theorem jb0{i:Nat}{y:Str}{py spos:Pos}(hN:X.N.Nodup)(hiN:X.N[i]?=some y)(hy:Loc X.env.scope y)(hc:X.calm=true)(c:CompOk X scope Nc js)(hi:QI X tg iter wi)(hg:∀C s3 H3 fp,QG (X.comp scope C Nc s3 H3 fp) tg g)
  (he:∀C s3 H3 fp,QE (X.comp scope C Nc s3 H3 fp) elt te) (hsw:swapsWith (.ListComp elt [⟨tg,iter,[],0⟩] scope pos) (some (.Name y py)) spos.line X.env=pure true:=by rfl)
  (hs:∀x,foldedSetIterable iter X.env x=pure x:=by intro _;rfl) (hf:X.fn y=true\/X.env.scope.names.lookup y=some .local:=by first|exact .inl rfl|exact .inr rfl|assumption) :
  QS X (.Assign [.Name y py] (.ListComp elt [⟨tg,iter,[],0⟩] scope pos) spos) (tAsg (jdx wi g js te) (jco i)):=⟨ps_setc hN hiN hy hc c hi.h (λC s H f=>(hg C s H f).h) (λC s H f=>(he C s H f).h) hsw hs hf⟩
theorem jj(F:FnOk X.prog X.w X.K X.mg X.base CX k f fd ps sp)(hr:Room k X.A)(hg:Gl X x)(hm:X.mg x=some (.ref f))(hk:PySem.W.keepIn X.K (.ref f)=true)(hb:Binds X.K fd ps ds)(hd:Vals dvs ds)(hx:jdc CX X E)
  (ha:QA X (e::es) t) (hdb:(x == ("__debug__":Str))=false:=by decide) (he:starEach (e::es) X.env=(false,eval e X.env)::starEach es X.env:=by rfl) (hpl:(backTo pos (starEach es X.env)).any (·.1)=false:=by rfl) :
  QE X (.Call (.Name x p) (e::es) [] pos) (jh1 sp dvs E t):=⟨pe_call F hr hg hm hk hb hd hx ha.h hdb he hpl⟩
theorem ki(hc:jct X (.type T) r)(hg:Gl X x)(hm:X.mg x=none)(hv:bootBuiltins x=some (.type T))(ha:QA X (e::es) t)(hn:x≠"__name__":=by decide)(hdb:(x == ("__debug__":Str))=false:=by decide)
  (he:starEach (e::es) X.env=(false,eval e X.env)::starEach es X.env:=by rfl) (hpl:(backTo pos (starEach es X.env)).any (·.1)=false:=by rfl):QE X (.Call (.Name x p) (e::es) [] pos) (tCB r t):=⟨pe_callTy hc hg hm hv ha.h hn hdb he hpl⟩
theorem jv(hc:jct X (.builtin idn) r)(hg:Gl X x)(hm:X.mg x=none)(hv:bootBuiltins x=some (.builtin idn))(ha:QA X (e::es) t)(hn:x≠"__name__":=by decide)(hdb:(x == ("__debug__":Str))=false:=by decide)
  (he:starEach (e::es) X.env=(false,eval e X.env)::starEach es X.env:=by rfl) (hpl:(backTo pos (starEach es X.env)).any (·.1)=false:=by rfl):QE X (.Call (.Name x p) (e::es) [] pos) (tCB r t):=⟨pe_callB hc hg hm hv ha.h hn hdb he hpl⟩
theorem yh(slot:Slot "list" name idn)(hty:typeOf (.builtin idn)=pure (.type "method_descriptor"))(hm:MtM X idn r)(ho:QE X o to)(ha:QA X (e::es) t)(mono:∀σ H Q Q',(∀v H',Q v H'->Q' v H')->to σ H Q->to σ H Q')
  (hbase:attributeBase o name X.env (eval o X.env)=eval o X.env:=by rfl)
  (hfew:((backTo cpos (starEach (e::es) X.env)).all (λx=>!x.1) && (backToKw cpos (keywordEach [] X.env)).all (λx=>x.1.isSome)
   && decide ((e::es).length+([]:List Keyword).length+(if([]:List Keyword).isEmpty then 0 else 1)<30))=true:=by rfl)
  (hline:(apos.endLine == cpos.line)=true:=by rfl) (hs:starEach (e::es) X.env=(false,eval e X.env)::starEach es X.env:=by rfl) (hplain:(backTo cpos (starEach es X.env)).any (·.1)=false:=by rfl) :
  QE X (.Call (.Attribute o name apos) (e::es) [] cpos) (tBML r to t):=⟨pe_bmL slot hty hm ho.h ha.h mono hbase hfew hline hs hplain⟩
theorem jbh(slot:Slot "str" name idn)(hty:typeOf (.builtin idn)=pure (.type "method_descriptor"))(hm:MtM X idn r)(ho:QE X o to)(ha:QA X (e::es) t)(mono:∀σ H Q Q',(∀v H',Q v H'->Q' v H')->to σ H Q->to σ H Q')
  (hbase:attributeBase o name X.env (eval o X.env)=eval o X.env:=by rfl)
  (hfew:((backTo cpos (starEach (e::es) X.env)).all (λx=>!x.1) && (backToKw cpos (keywordEach [] X.env)).all (λx=>x.1.isSome)
   && decide ((e::es).length+([]:List Keyword).length+(if([]:List Keyword).isEmpty then 0 else 1)<30))=true:=by rfl)
  (hline:(apos.endLine == cpos.line)=true:=by rfl) (hs:starEach (e::es) X.env=(false,eval e X.env)::starEach es X.env:=by rfl) (hplain:(backTo cpos (starEach es X.env)).any (·.1)=false:=by rfl) :
  QE X (.Call (.Attribute o name apos) (e::es) [] cpos) (tBMS r to t):=⟨pe_bmS slot hty hm ho.h ha.h mono hbase hfew hline hs hplain⟩
theorem jc:QA X [] tNil:=⟨jce⟩
theorem ja(ha:QE X e te)(hr:QA X es t)(hs:starEach (e::es) X.env=(false,eval e X.env)::starEach es X.env:=by rfl):QA X (e::es) (jev te t):=⟨jb4 ha.h hr.h hs⟩
theorem jt{i:Nat}{x:Str}(hN:X.N.Nodup)(hi:X.N[i]?=some x)(hx:Loc X.env.scope x)(hf:X.fn x=true\/X.env.scope.names.lookup x=some .local:=by first|exact .inl rfl|exact .inr rfl|assumption):QG X (.Name x pos) (jco i):=⟨pg_name hN hi hx hf⟩
theorem ja6{es:List Expr}{t:TGs}{n:Nat}{K:PySem.W.Frag}(hc:X.calm=true)(h:QGs X es t)(hK:X.K=K)(hn:(assignEach es X.env).length=n:=by rfl)(hst:(assignEach es X.env).findIdx? (·.1)=none:=by rfl) :
  QG X (.Tuple es k pos) (gTup K n t):=by subst hK;exact⟨pg_tup hc h.h hn hst⟩
theorem jaw:QGs X [] gNil:=⟨pgs_nil⟩
theorem zi{e:Expr}{es:List Expr}(h1:QG X e t)(h2:QGs X es u)(hs:(assignEach (e::es) X.env).map (·.2)=assign e X.env::(assignEach es X.env).map (·.2):=by rfl):QGs X (e::es) (jhq t u):=⟨pgs_cons h1.h h2.h hs⟩
theorem jbi{o i:Expr}(ho:QE X o to)(hi:QE X i ti)(hs:PSet X t)
  (ha:∀v,assign (.Subscript o i pos) X.env v=(do
   let ov <-holding [v] (eval o X.env)
   let iv <-holding [v,ov] (eval i X.env)
   standAt pos
   holding [v,ov,iv] (setItem ov iv v)
   release [v,ov,iv] []):=by intro _;rfl):QG X (.Subscript o i pos) (gSub to ti t):=⟨pg_sub ho.h hi.h hs ha⟩
theorem jl{i:Nat}{x:Str}{e:Expr}{te:TE}{pos':Pos}(hN:X.N.Nodup)(hi:X.N[i]?=some x)(hx:Loc X.env.scope x)(he:QE X e te)(hs:swapsWith e (some (.Name x pos')) pos.line X.env=pure false:=by rfl)
  (hf:X.fn x=true\/X.env.scope.names.lookup x=some .local:=by first|exact .inl rfl|exact .inr rfl|assumption):QS X (.Assign [.Name x pos'] e pos) (tAsg te (jco i)):=⟨ps_set hN hi hx he.h hs hf⟩
theorem ja7{tg e:Expr}(he:QE X e te)(hg:QG X tg g)(hs:swapsWithSole [tg] e pos.line X.env=pure false:=by rfl)(hw:swappedStores [tg] e X.env=pure none:=by rfl)
  (h1:(assignEach [tg] X.env).map (·.2)=[assign tg X.env]:=by rfl):QS X (.Assign [tg] e pos) (tAsg te g):=⟨ps_asg he.h hg.h hs hw h1⟩
theorem qps_dput(hu:X.A.units+1<cLine)(ho:QE X o td)(hi:QE X i ty)(hv:QE X value tv)(hs:swapsWith value (some (.Subscript o i pos')) pos.line X.env=pure false) :
  QS X (.Assign [.Subscript o i pos'] value pos) (jhy td ty tv):=⟨ps_dput hu ho.h hi.h hv.h hs⟩
theorem jp(he:QE X e te):QS X (.Return (some e) pos) (tRet te):=⟨ps_ret he.h⟩
theorem ky(he:QE X e te)(hs:swapsWith e none pos.line X.env=pure false:=by rfl):QS X (.Expr e pos) (jh3 te):=⟨ps_expr he.h hs⟩
theorem j0(hc:QT X c tc)(ha:QSs X a t)(hb:QSs X b u):QS X (.If c a b pos) (tIfS tc t u):=⟨ps_if hc.h ha.h hb.h⟩
theorem yp{iter:Expr}(hp:PassesOwn (model X.prog X.w) X.A X.env X.xe)(hc:X.calm=true)(hi:QI X tg iter wi)(hg:QG X tg g)(hb:QSs X body tb)(hs:∀x,foldedSetIterable iter X.env x=pure x:=by intro _;rfl) :
  QS X (.For tg iter body [] pos) (tFor wi g tb):=⟨ps_for hp hc hi.h hg.h hb.h hs⟩
theorem jbo(hp:PassesOwn (model X.prog X.w) X.A X.env X.xe)(hc:QT X c tc)(hb:QSs X body tb):QS X (.While c body [] pos) (jjm tc tb):=⟨ps_while hp hc.h hb.h⟩
theorem yu{a:Expr}{ta:TA}{p pos:Pos}(hg:Gl X "range")(hm:X.mg "range"=none)(ha:QA X [a] ta)(hs:starEach [a] X.env=[(false,eval a X.env)]:=by rfl):QI X tg (.Call (.Name "range" p) [a] [] pos) (jhs ta):=⟨pi_range1 hg hm ha.h hs⟩
theorem kf{K:PySem.W.Frag}(hl:QE X l tl)(hK:X.K=K):QI X tg l (iAny K tl):=by subst hK;exact⟨pi_any hl.h⟩
def jew(D:Addr)(tt:TT)(te:TE):TS:=λE σ H=>tt σ H λb H1=>if b=true then jc3 D te E σ H1 else E.nx σ H1
def jdo(wi:TI)(g:TG)(js:List (Option Nat))(tt:TT)(te:TE):TE:=λσ H Q=>wi σ H λJ H1=>∀D,H1 D=none ->
 jcn J g (jew D tt te) {nx:=λ_ H'=>Q (.ref D) H',rt:=λ_ _=>False} (jcw js σ) (upd H1 D (.lst []))
theorem jie(elt target iter cd:Expr)(scope:Scope)(pos:Pos)(it acc:Value)(env:Env) :
  compTurn (.ListComp elt [⟨target,iter,[cd],0⟩] scope pos) 0 it acc env=(standAt iter.pos >>= λ_=>pyNext it >>= λr=>match r with
   |none=>pure (.done .next)
   |some v=>letOwnedTupleGo target it v >>= λ_=>assign target env v >>= λ_ =>
    (forIn [cd] true λc ok=>if ok=true then(isTrue c env (eval c env) >>= λb=>pure (ForInStep.yield b))else pure (ForInStep.yield ok)) >>= λok =>
    if ok=true then((eval elt env >>= λx=>call (.builtin "list.append") [acc,x] >>= λ_=>pure ()) >>= λ_=>again (.compLoop (.ListComp elt [⟨target,iter,[cd],0⟩] scope pos) 0 it acc env))
    else again (.compLoop (.ListComp elt [⟨target,iter,[cd],0⟩] scope pos) 0 it acc env)):=by rfl
section
variable{X:Cx}{scope:Scope}{Nc:List Str}{js:List (Option Nat)}{elt tg iter cd:Expr}{pos:Pos}{wi:TI}{g:TG}{te:TE}{tt:TT}
theorem je2(hc:X.calm=true)(c:CompOk X scope Nc js)(hi:PI X tg iter wi)(hg:∀C s3 H3 fp,PG (X.comp scope C Nc s3 H3 fp) tg g)(ht:∀C s3 H3 fp,PT (X.comp scope C Nc s3 H3 fp) cd tt)(he:∀C s3 H3 fp,PE (X.comp scope C Nc s3 H3 fp) elt te)
  {pins:List (Addr×Obj)}{s:Shared}{σ:L2.St}{H:Hp} (I:Inv X pins σ H s) {RR:Value->Addr->Result->Shared->Prop}{NX:Addr->Hp->Prop}
  (h:wi σ H λJ H1=>∀D,H1 D=none->jcn J g (jew D tt te) {nx:=λ_ H'=>NX D H',rt:=λ_ _=>False} (jcw js σ) (upd H1 D (.lst [])))
  (fin:∀D H3 s3 fp σ5 H5 s6,Inv X pins σ H3 s3->(∀b∈fp,FpOk X pins H3 b)->Inv (X.comp scope s3.heap.objs.size Nc s3 H3 fp) [] σ5 H5 s6->NX D H5->RR (.ref D) s3.heap.objs.size (.ok .next) s6) :
  wpAny (model X.prog X.w) X.A (eval iter X.env) (λx s₁=>wpAny (model X.prog X.w) X.A (pyIter x) (λit s₂=>wpAny (model X.prog X.w) X.A (newList []) (λacc s₃ =>
   wpAny (model X.prog X.w) X.A (newFunctionEnv scope X.env.globals (clOf X.env scope.names []) [] X.env.qual none .none (some X.env)) (λcenv s₄ =>
    codeAny (model X.prog X.w) X.A (.compStart (.ListComp elt [⟨tg,iter,[cd],0⟩] scope pos) 0 it acc {cenv with scope:=relabel scope X.env}) (RR acc cenv.locals) s₄) X.xe s₃) X.xe s₂) X.xe s₁) X.xe s:=by
 refine thn (hi pins s σ H _ I h) λv s1 h1=>thn h1 λitv s2 h2=>?_
 obtain⟨it,fp,tn,J,H2,rfl,I2,T,st2,f2,h2⟩:=h2
 refine Oc ?_ (by show 0<=sizeLine;decide)
 have hD:H2 s2.heap.objs.size=none:=I2.hok.fresh (Af _)
 have I3:Inv X pins σ (upd H2 s2.heap.objs.size (.lst [])) {s2 with heap:=s2.heap.push {cls:=.type "list",data:=.seq ([]:List Value).toArray}} :=
  I2.laid (t':=s2.toks) (λb u e=>Ac _ e) (Af _) ⟨by show 0<=sizeLine;decide,[],0,.nil,Ai _ rfl⟩
 have f3:∀b∈fp,FpOk X pins (upd H2 s2.heap.objs.size (.lst [])) b:=λb hb=>by
  obtain⟨q0,q⟩:=f2 b hb
  obtain⟨o,e,_⟩:=T.obj _ _ st2 b hb
  exact⟨by rw[jd (Ao (Al e))];exact q0,q⟩
 have o3:∀b∈fp,∃o,(s2.heap.push {cls:=.type "list",data:=.seq ([]:List Value).toArray}).get? b=some o:=λb hb=>by
  obtain⟨o,e,_⟩:=T.obj _ _ st2 b hb
  exact⟨o,Ac _ e⟩
 have st3:tn 0 (s2.heap.push {cls:=.type "list",data:=.seq ([]:List Value).toArray}):=T.keep _ _ _ st2 λb _ o e=>Ac _ e
 generalize hh3:s2.heap.push {cls:=.type "list",data:=.seq ([]:List Value).toArray}=h3 at I3 o3 st3⊢
 refine wpAny_newFunctionEnv c.nocell (by intro y hy;simp at hy) (λh4 hn4 hs4=>?_) c.kind
 have k4:∀b o,h3.get? b=some o->h4.get? b=some o:=λb o e=>(hs4.2 b (Ao (Al e))).trans (Ac _ e)
 have I4:=jig (tk:=s2.toks+([]:List (Str×Value)).length) c I3 f3 o3 hn4 k4
 have st4:tn 0 h4:=T.keep _ _ _ st3 λb _ o e=>k4 b o e
 obtain⟨W,⟨m0,w0⟩,turn⟩:=h2 _ hD
 let s3:Shared:={s2 with heap:=h3}
 let Y:Cx:=X.comp scope h3.objs.size Nc s3 (upd H2 s2.heap.objs.size (.lst [])) fp
 have stat:∀{H':Hp},(∀b∈fp,H' b=none)->∀b∈fp,FpOk Y [] H' b:=λhn b hb=>⟨hn b hb,(I4.ok.exf b hb).1,I4.ok.exfs b hb,.inl hb,(I4.ok.exf b hb).2,(λp hp=>nomatch hp)⟩
 have loop:codeAny (model X.prog X.w) X.A (.compLoop (.ListComp elt [⟨tg,iter,[cd],0⟩] scope pos) 0 (.ref it) (.ref s2.heap.objs.size) Y.env)
   (RR (.ref s2.heap.objs.size) h3.objs.size) {s2 with heap:=h4,toks:=s2.toks+([]:List (Str×Value)).length}:=by
  refine codeAny_loop rfl (λn s'=>∃i σ' H',Inv Y [] σ' H' s'/\tn i s'.heap/\(∀b∈fp,H' b=none)/\W i n σ' H') (λn s5 hI=>?_) m0 ⟨0,_,_,I4,st4,λb hb=>(f3 b hb).1,w0⟩
  obtain⟨i,σ5,H5,I5,st5,fr5,w5⟩:=hI
  show wpAny _ X.A ((compTurn (.ListComp elt [⟨tg,iter,[cd],0⟩] scope pos) 0 (.ref it) (.ref s2.heap.objs.size) Y.env).onRaise (λx=>do noteFrame x Y.env;theTreesLotGoes x)) _ _ s5
  refine wpAny_noted (Ox (E:=λ_ _=>False) ?_ (λ_ _ q=>q) λ_ _ z=>z.elim)
  rw[jie]
  refine Aa (Wg (Aa ?_))
  rcases turn i n σ5 H5 w5 with⟨stop,qn⟩|⟨go,N,hN,step⟩
  ·refine thn (T.done Y rfl rfl rfl hc i [] s5 σ5 H5 _ I5 (stat fr5) st5 stop) λr s6 ⟨hr,I6⟩=>?_
   subst hr
   refine Ab ?_
   exact fin _ _ s3 fp σ5 H5 s6 I3 f3 I6 qn
  ·refine thn (T.item Y rfl rfl rfl hc i [] s5 σ5 H5 _ I5 (stat fr5) st5 go) λr s6 ⟨u,hr,h6⟩=>?_
   subst hr
   refine Aa (thn h6 λ_ s7 ⟨x,H7,I7,r7,y7,st7,fr7⟩=>?_)
   have I7':=I7.pinned (stat fr7) (T.obj _ _ st7)
   refine Aa (thn (hg _ _ _ _ _ s7 σ5 H7 x u _ I7' r7 (step x H7 y7)) λ_ s8 ⟨σ8,H8,I8,q8⟩=>?_)
   have fin2:∀{H':Hp}{s':Shared},Inv Y ([]++jek fp s7.heap) σ8 H' s'->N σ8 H'->∃m,m<n/\∃i σ1 H1,Inv Y [] σ1 H1 s'/\tn i s'.heap/\(∀b∈fp,H1 b=none)/\W i m σ1 H1:=fun{H'}{s'} I10 n10=>by
    obtain⟨m',hm,w10⟩:=hN σ8 H' n10
    refine⟨m',hm,i+1,σ8,H',I10.unpinned,T.keep _ _ _ st7 λb hb o e=>(I10.pin (b,o) (A2 _ (A2 _ (jc1 hb e)))).1,λb hb=>?_,w10⟩
    obtain⟨o,e,d⟩:=T.obj _ _ st7 b hb
    exact(I10.pin (b,o) (A2 _ (A2 _ (jc1 hb e)))).2.1
   rw[Ui,Ap rfl]
   refine Aa (Aa (Aa (thn (ht _ _ _ _ _ s8 σ8 H8 _ I8 q8) λok s9 ⟨H9,I9,q9⟩=>Ab ?_)))
   simp only[List.forIn_nil]
   refine Ab ?_
   cases ok with
   |false =>
    simp only[Iw,O6]at q9⊢
    exact Ab ⟨rfl,fin2 I9 q9⟩
   |true =>
    simp only[Uj]at q9⊢
    refine Aa (Aa (thn (he _ _ _ _ _ s9 σ8 H9 _ I9 q9) λv s10 ⟨y,H10,I10,r10,ys,e10,z10,n10⟩=>?_))
    refine Aa (thn (jao (X:=Y) _ s10 σ8 H10 (.ref s2.heap.objs.size) [y] (.ref s2.heap.objs.size) [v] (λw H'=>N σ8 H') I10 rfl (.cons r10 .nil) ⟨_,ys,y,rfl,rfl,jcy e10,z10,n10⟩) λw s11 ⟨_,H11,I11,_,n11⟩=>?_)
    exact Ab (Ab ⟨rfl,fin2 I11 n11⟩)
 exact Yb loop (T.self _ 0 _ _ _ st4 loop)
theorem pe_compIf(hc:X.calm=true)(c:CompOk X scope Nc js)(hi:PI X tg iter wi)(hg:∀C s3 H3 fp,PG (X.comp scope C Nc s3 H3 fp) tg g)(ht:∀C s3 H3 fp,PT (X.comp scope C Nc s3 H3 fp) cd tt)(he:∀C s3 H3 fp,PE (X.comp scope C Nc s3 H3 fp) elt te)
  (hs:∀x,foldedSetIterable iter X.env x=pure x:=by intro _;rfl):PE X (.ListComp elt [⟨tg,iter,[cd],0⟩] scope pos) (jdo wi g js tt te):=by
 intro pins s σ H Q I h
 rw[eval_ListComp]
 refine Uo (use:=none) (g:=⟨tg,iter,[cd],0⟩) (gs:=[]) rfl hs (jdd (c.has I)) c.kind c.loc
  (je2 (RR:=λacc C=>compPost (model X.prog X.w) X.A X.xe none (EP X pins σ Q) acc C) (NX:=λD H'=>Q (.ref D) H') hc c hi hg ht he I h λD H3 s3 fp σ5 H5 s6 I3 f3 I6 qn=>?_)
 obtain⟨m,hn,_⟩:=I6.loc
 exact⟨m,hn,λh' hs'=>⟨.ref D,H5,jdk I3 f3 I6 hs',rfl,qn⟩⟩
theorem ps_setcIf{i:Nat}{y:Str}{py spos:Pos}(hN:X.N.Nodup)(hiN:X.N[i]?=some y)(hy:Loc X.env.scope y)(hc:X.calm=true)(c:CompOk X scope Nc js)(hi:PI X tg iter wi)(hg:∀C s3 H3 fp,PG (X.comp scope C Nc s3 H3 fp) tg g)
  (ht:∀C s3 H3 fp,PT (X.comp scope C Nc s3 H3 fp) cd tt) (he:∀C s3 H3 fp,PE (X.comp scope C Nc s3 H3 fp) elt te) (hsw:swapsWith (.ListComp elt [⟨tg,iter,[cd],0⟩] scope pos) (some (.Name y py)) spos.line X.env=pure true:=by rfl)
  (hs:∀x,foldedSetIterable iter X.env x=pure x:=by intro _;rfl) (hf:X.fn y=true\/X.env.scope.names.lookup y=some .local:=by first|exact .inl rfl|exact .inr rfl|assumption) :
  PS X (.Assign [.Name y py] (.ListComp elt [⟨tg,iter,[cd],0⟩] scope pos) spos) (tAsg (jdo wi g js tt te) (jco i)):=by
 intro pins s σ H D I h
 rw[Yi _ _ _ _ hsw]
 refine Aa (Wg (Aa ?_))
 show wpAny _ X.A (do let _ <-comprehension (.ListComp elt [⟨tg,iter,[cd],0⟩] scope pos) scope X.env _ (newList []) false (eval iter X.env) (some (assign (.Name y py) X.env))) _ _ s
 refine Aa (Ox (Uo (use:=some (assign (.Name y py) X.env)) (g:=⟨tg,iter,[cd],0⟩) (gs:=[]) (Q:=λ_ s'=>SP X pins D .next s') rfl hs (jdd (c.has I)) c.kind c.loc
  (je2 (RR:=λacc C=>compPost (model X.prog X.w) X.A X.xe (some (assign (.Name y py) X.env)) (λ_ s'=>SP X pins D .next s') acc C) (NX:=λDa H'=>D.nx (σ.set i (some (.ref Da))) H') hc c hi hg ht he I h λDa H3 s3 fp σ5 H5 s6 I3 f3 I6 qn=>?_))
  (λ_ s' hq=>Ab (Ab hq)) λ_ _ e=>e)
 obtain⟨m,hn,_⟩:=id I6.loc
 have I7:Inv X pins σ H5 s6:=jdk I3 f3 I6 (.refl ..)
 have hC:H5 s3.heap.objs.size=none:=I6.free
 have nL:s3.heap.objs.size≠X.env.locals:=Uk I3.lt
 have nc:∀x a,X.env.cells.lookup x=some a->a≠s3.heap.objs.size:=λx a e=>by
  obtain⟨v,q⟩:=I3.cell x a e
  exact Ao q.lt
 have np:∀p∈X.pn++pins,p.1≠s3.heap.objs.size:=λp hp=>Ao (Al (I3.pin p hp).1)
 show wpAny _ _ (assign (.Name y py) X.env (.ref Da)) _ _ _
 refine W3 (jdw (v:=.ref Da) I7 hN hiN hy rfl (λs8 I8 hb=>?_) hf)
 obtain⟨a,hs8,ha⟩:=hb
 have nCa:s3.heap.objs.size≠a:=by
  rcases ha with z|z
  ·rw[z];exact nL
  ·exact(nc y a z).symm
 refine⟨m,hn.sameBut hs8 nCa,λh9 hs9=>?_⟩
 exact⟨_,H5,I8.turned (t':=s8.toks) (λb o hb e=>(hs9.2 b hb).trans e) hC nL (.inr (Io I3.sz (Af _))) nc np,qn⟩
theorem qpe_compIf(hc:X.calm=true)(c:CompOk X scope Nc js)(hi:QI X tg iter wi)(hg:∀C s3 H3 fp,QG (X.comp scope C Nc s3 H3 fp) tg g)(ht:∀C s3 H3 fp,QT (X.comp scope C Nc s3 H3 fp) cd tt)(he:∀C s3 H3 fp,QE (X.comp scope C Nc s3 H3 fp) elt te)
  (hs:∀x,foldedSetIterable iter X.env x=pure x:=by intro _;rfl):QE X (.ListComp elt [⟨tg,iter,[cd],0⟩] scope pos) (jdo wi g js tt te) :=
 ⟨pe_compIf hc c hi.h (λC s H f=>(hg C s H f).h) (λC s H f=>(ht C s H f).h) (λC s H f=>(he C s H f).h) hs⟩
theorem jbe{i:Nat}{y:Str}{py spos:Pos}(hN:X.N.Nodup)(hiN:X.N[i]?=some y)(hy:Loc X.env.scope y)(hc:X.calm=true)(c:CompOk X scope Nc js)(hi:QI X tg iter wi)(hg:∀C s3 H3 fp,QG (X.comp scope C Nc s3 H3 fp) tg g)
  (ht:∀C s3 H3 fp,QT (X.comp scope C Nc s3 H3 fp) cd tt) (he:∀C s3 H3 fp,QE (X.comp scope C Nc s3 H3 fp) elt te) (hsw:swapsWith (.ListComp elt [⟨tg,iter,[cd],0⟩] scope pos) (some (.Name y py)) spos.line X.env=pure true:=by rfl)
  (hs:∀x,foldedSetIterable iter X.env x=pure x:=by intro _;rfl) (hf:X.fn y=true\/X.env.scope.names.lookup y=some .local:=by first|exact .inl rfl|exact .inr rfl|assumption) :
  QS X (.Assign [.Name y py] (.ListComp elt [⟨tg,iter,[cd],0⟩] scope pos) spos) (tAsg (jdo wi g js tt te) (jco i)) :=
 ⟨ps_setcIf hN hiN hy hc c hi.h (λC s H f=>(hg C s H f).h) (λC s H f=>(ht C s H f).h) (λC s H f=>(he C s H f).h) hsw hs hf⟩
end
section
variable{D:Addr}{te:TE}{tt:TT}{E:Ends}{r:L2.St}{H:Hp}
theorem jdv{α:Type}(p:α->Bool)(f:α->V)(xs:List α)(i:Nat)(x:α)(h:xs[i]?=some x):((xs.take (i+1)).filter p).map f=((xs.take i).filter p).map f++(if p x=true then[f x]else[]):=by
 rw[O2,h]
 simp only[Option.toList_some,List.filter_append,I0]
 congr 1
 by_cases q:p x=true
 ·simp[q]
 ·simp[q]
theorem jdy{K:PySem.W.Frag}{a:Addr}{xs:List V}(p:V->Bool)(f:V->V)(ha:H a=some (.lst xs))(hD:H D=none)(hz:xs.length<=sizeLine)
  (ht:∀x∈xs,∀l Q,Q (p x) (upd H D (.lst l))->tt (some x::r) (upd H D (.lst l)) Q) (he:∀x∈xs,p x=true->∀l Q,Q (f x) (upd H D (.lst l))->te (some x::r) (upd H D (.lst l)) Q)
  (hn:∀v,E.nx (v::r) (upd H D (.lst ((xs.filter p).map f)))):jcn (Itl K a) (jco 0) (jew D tt te) E (none::r) (upd H D (.lst [])):=by
 have ne:a≠D:=je ha hD
 refine jcs (xs:=xs) (λi σ H'=>∃v:Option V,σ=v::r/\H'=upd H D (.lst (((xs.take i).filter p).map f))) ⟨none,rfl,rfl⟩ ?_ ?_ ?_
 ·rintro i σ H' _ ⟨v,_,rfl⟩
  rw[jd ne];exact ha
 ·rintro i x σ H' hx ⟨v,rfl,rfl⟩
  have hl:i<xs.length:=(Ag.mp hx).1
  have hm:=A6 hx
  have hf:(((xs.take i).filter p).map f).length<=i:=by
   rw[Ad]
   exact Io (Yj _ _) (by rw[A5];omega)
  refine ht x hm _ _ ?_
  by_cases q:p x=true
  ·rw[q,Ap rfl]
   refine he x hm q _ _ ⟨_,by rw[jb];rfl,by omega,some x,rfl,?_⟩
   rw[je0,jdv p f xs i x hx,Ap q]
  ·rw[At q]
   refine⟨some x,rfl,?_⟩
   rw[jdv p f xs i x hx,At q,Ug]
 ·rintro σ H' ⟨v,rfl,rfl⟩
  rw[Iq (Af _)]
  exact hn v
theorem jkz{K:PySem.W.Frag}{a:Addr}{xs:List V}(p:V->Bool)(f:V->V)(ha:H a=some (.tup xs))(hD:H D=none)(hz:xs.length<=sizeLine)
  (ht:∀x∈xs,∀l Q,Q (p x) (upd H D (.lst l))->tt (some x::r) (upd H D (.lst l)) Q) (he:∀x∈xs,p x=true->∀l Q,Q (f x) (upd H D (.lst l))->te (some x::r) (upd H D (.lst l)) Q)
  (hn:∀v,E.nx (v::r) (upd H D (.lst ((xs.filter p).map f)))):jcn (Itt K a) (jco 0) (jew D tt te) E (none::r) (upd H D (.lst [])):=by
 have ne:a≠D:=je ha hD
 refine jds (xs:=xs) (λi σ H'=>∃v:Option V,σ=v::r/\H'=upd H D (.lst (((xs.take i).filter p).map f))) ⟨none,rfl,rfl⟩ ?_ ?_ ?_
 ·rintro i σ H' _ ⟨v,_,rfl⟩
  rw[jd ne];exact ha
 ·rintro i x σ H' hx ⟨v,rfl,rfl⟩
  have hl:i<xs.length:=(Ag.mp hx).1
  have hm:=A6 hx
  have hf:(((xs.take i).filter p).map f).length<=i:=by
   rw[Ad]
   exact Io (Yj _ _) (by rw[A5];omega)
  refine ht x hm _ _ ?_
  by_cases q:p x=true
  ·rw[q,Ap rfl]
   refine he x hm q _ _ ⟨_,by rw[jb];rfl,by omega,some x,rfl,?_⟩
   rw[je0,jdv p f xs i x hx,Ap q]
  ·rw[At q]
   refine⟨some x,rfl,?_⟩
   rw[jdv p f xs i x hx,At q,Ug]
 ·rintro σ H' ⟨v,rfl,rfl⟩
  rw[Iq (Af _)]
  exact hn v
end
def tMid(t u:TS):TS:=λD σ H=>∃J:L2.St->Hp->Prop,t {D with nx:=J} σ H/\∀σ H,J σ H->u D σ H
theorem pss_mid{X:Cx}{st:Stmt}{rest:List Stmt}{t u:TS}(h1:PS X st t)(h2:PSs X rest u):PSs X (st::rest) (tMid t u):=by
 intro pins s σ H D I h
 obtain⟨J,h,hJ⟩:=h
 refine wpAny_execs_cons (thn (h1 pins s σ H {D with nx:=J} I h) λf s1 q=>?_)
 cases f with
 |next =>
  obtain⟨σ1,H1,I1,q1⟩:=q
  exact h2 pins s1 σ1 H1 D I1 (hJ _ _ q1)
 |ret v=>exact q
 |brk=>exact q
 |cont=>exact q
theorem jz{X:Cx}{st:Stmt}{rest:List Stmt}{t u:TS}(h1:QS X st t)(h2:QSs X rest u):QSs X (st::rest) (tMid t u):=⟨pss_mid h1.h h2.h⟩
section
variable{X:Cx}
theorem jaj{K:PySem.W.Frag}(hK:X.K=K):jct X (.builtin "isinstance") (rIsU K):=by
 subst hK
 exact call_isinstanceU
end
theorem jij:entryFor table "dict.update.loop"=some Builtin.«dict.update.loop»:=entryFor_of_tree (by kernel_rfl)
theorem jd6:plainId "dict.update.loop"=true:=by decide +kernel
theorem jl8:typeLookup (.type "list") "keys"=pure none:=by rw[typeLookup_type,Yk];kernel_rfl
section
variable{P:Program}{w:World}{A:Around}{R:Result->Shared->Prop}{I:Addr}{fp wr:List Addr}{n:Nat}{Pv:Nat->Value->Prop}{St:Nat->Heap->Prop}
theorem jou{A:Around}{E:Value->Shared->Prop}{s:Shared}{a:Addr}{o:Obj}{xs:Array Value}{k:Nat}{u:Tok}{Q:Value->Shared->Prop}
  (hx:s.heap.get? a=some o) (hc:o.cls=.type "list") (hdat:o.data=.seq xs k) (hd:o.dict=none) (hA:A.handled=none)
  (h:∀h' tk e,Heap.NewExcOf s.heap h' e "AttributeError"->E (.ref e) {s with heap:=h',toks:=tk}):wpAny (model P w) A (getAttrBy (.ref a) (.str "keys" u) false) Q E s:=by
 obtain⟨c,dct,dat,sl⟩:=o
 simp only at hc hdat hd
 subst hc hdat hd
 obtain⟨hp,g,d,tk,os⟩:=s
 have hT:∀tk',(⟨hp,g,d,tk',os⟩:Shared).TypeIs (.ref a) "list":=λ_=>⟨_,hx,rfl⟩
 have g1:=sub_AttributeError
 have g3:=Wx.lookup
 have g4:=Wx.bind (.ref a)
 have g5:=am_list_getattr_none
 unfold getAttrBy
 repeat (any_goals (first|assumption|exact hT _|((with_reducible show wpAny _ _ (call (Value.builtin "list.__getattribute__") _ _) _ _ _);refine Yr Wx (hT _) am_entry_list_getattribute (F.args_list_getattribute_2 _ _) (meets_getattribute_miss_list a xs k sl "keys" _ jl8 (by decide +kernel) (by size_fits)) ⟨hx,hA,λh' tk' e hx'=>?_⟩)|wp_step))
 obtain⟨t',u',he⟩:=hx'.there
 show wpAny _ _ (getattributeRaised _ _ _ _ _ _ _) _ _ _
 unfold getattributeRaised
 repeat (any_goals (first|assumption|wp_step))
 exact h _ _ _ hx'.of
end
theorem ja8{X:Cx}{K:PySem.W.Frag}(hK:X.K=K):SlR X (rSlU K):=by
 subst hK
 exact sl_U
section
variable{prog:Program}{w:World}{A:Around}{E:Value->Shared->Prop}{s:Shared}
theorem jm6{t sl:Addr}{items:Array Value}{vl vu:Value}{lo hi:Option Int}{Q:Value->Shared->Prop}(ht:IsTup s.heap t items)(hs:s.heap.IsSliceOf sl vl vu .none)(pl:IsPart vl lo)(pu:IsPart vu hi)
  (hw:HT.sIx items.size 0 lo=0/\HT.sIx items.size items.size hi=items.size) (h:Q (.ref t) s):wpAny (model prog w) A (getItem (.ref t) (.ref sl)) Q E s:=by
 obtain⟨os,hos,hcs,hds⟩:=id hs
 have hTs:s.TypeIs (.ref sl) "slice":=⟨os,hos,hcs⟩
 unfold getItem
 try with_reducible refine On ?_
 first|refine Aa (Ab ?_)|skip
 refine Aa (wpAny_sequenceKey ht.typeIs (by decide) ?_)
 refine Aa (Oz (name:=Str.ofString "__getitem__") ht.typeIs Os
  (Op Os ht.typeIs PyProof.Rows.entry_tuple_getitem ?_ (PyProof.Rows.args_tuple_getitem _ _)))
 show wpAny _ _ (Builtin.Tuple.tupleItemsOf (.ref t) >>= _) _ _ s
 refine Aa (tupleItemsOf_ ht ?_)
 refine Aa (U9 hTs ?_)
 rw[Ap (by decide)]
 refine Aa (HT.sliceApplied_gen hs pl pu ?_)
 show wpAny _ _ (if(((HT.sIx items.size 0 lo:Nat):Int) == 0 && (1:Int) == 1 && (HT.sIx items.size items.size hi-HT.sIx items.size 0 lo) == items.size)=true then _ else _) _ _ s
 rw[Ap (by rw[hw.1,hw.2];simp)]
 unfold Builtin.Tuple.tupleIsExact
 exact Aa (Aa (U9 ht.typeIs (Ab (by rw[Ap (by decide)];exact Aa (U6 (Ab ⟨_,rfl,Ab h⟩))))))
end
section
variable{X:Cx}
def rSlW(K:PySem.W.Frag):V->Option Int->Option Int->Hp->VK->Prop:=λx lo hi H Q=>∃a xs,x=.ref a/\SqT K H a xs/\(HT.sIx xs.length 0 lo=0/\HT.sIx xs.length xs.length hi=xs.length)/\Q (.ref a) H
theorem sl_tupW:SlR X (rSlW X.K):=by
 intro pins s σ H x v vl vu lo hi sl Q I rx hs pl pu h
 obtain⟨a,xs,rfl,hx,hw,q⟩:=h
 cases rx
 obtain⟨its,r,ht,hz⟩:=I.tuple hx
 have hlen:its.toArray.size=xs.length:=by rw[Aj];exact r.length.symm
 refine⟨"tuple",_,Os.lookup,ht.typeIs,?_⟩
 exact jm6 ht hs pl pu (by rw[hlen];exact hw) ⟨.ref a,H,I,rfl,q⟩
def rSlV(K:PySem.W.Frag):V->Option Int->Option Int->Hp->VK->Prop:=λx lo hi H Q=>rSlU K x lo hi H Q\/rSlW K x lo hi H Q
theorem sl_VK{K:PySem.W.Frag}(hK:X.K=K):SlR X (rSlV K):=by
 subst hK
 exact SlR.or sl_U sl_tupW
theorem rSlV.tup{K:PySem.W.Frag}{H:Hp}{Q:VK}{a:Addr}{xs:List V}{lo hi:Option Int}(e:H a=some (.tup xs))(h:∀p H',H' p=some (.tup (cutV xs lo hi))->Kp [] H H'->Q (.ref p) H'):rSlV K (.ref a) lo hi H Q:=by
 by_cases w:HT.sIx xs.length 0 lo=0/\HT.sIx xs.length xs.length hi=xs.length
 ·refine .inr ⟨a,xs,rfl,SqT.of e,w,h a H ?_ (Kp.refl [] H)⟩
  have:cutV xs lo hi=xs:=by
   unfold cutV
   rw[w.1,w.2,List.drop_zero]
   exact Iq (by omega)
  rw[this];exact e
 ·exact .inl (rSlU.tup e w λp hp=>h p _ jb ((Kp.refl [] H).new hp))
end
def stpS(σ:List Str)(v:Str):List Str:=if σ.any (· == v)then σ else σ++[v]
def fmS(val:Nat->Str)(i:Nat):List Str:=((List.range i).map val).foldl stpS []
theorem jfb(val:Nat->Str)(i:Nat):fmS val (i+1)=stpS (fmS val i) (val i):=by
 unfold fmS;rw[Yt,I0,W4];rfl
theorem jj6(val:Nat->Str):∀(i:Nat)(k:Str),k∈fmS val i↔∃j,j<i/\val j=k
 |0,k=>by simp[fmS]
 |i+1,k=>by
  rw[jfb]
  unfold stpS
  have ih:=jj6 val i
  split
  ·rename_i h
   rw[O0]at h
   obtain⟨y,hy,e⟩:=h
   have e:y=val i:=by simpa using e
   subst e
   rw[ih]
   constructor
   ·rintro⟨j,hj,e⟩
    exact⟨j,by omega,e⟩
   ·rintro⟨j,hj,e'⟩
    by_cases hji:j=i
    ·rw[hji]at e'
     rw[<-e']
     exact(ih _).mp hy
    ·exact⟨j,by omega,e'⟩
  ·rw[Is,ih,Ah]
   constructor
   ·rintro(⟨j,hj,e⟩|e)
    ·exact⟨j,by omega,e⟩
    ·exact⟨i,by omega,e.symm⟩
   ·rintro⟨j,hj,e⟩
    by_cases hji:j=i
    ·subst hji
     exact .inr e.symm
    ·exact .inl ⟨j,by omega,e⟩
theorem jim(val:Nat->Str):∀i,(fmS val i).length<=i
 |0=>by simp[fmS]
 |i+1=>by
  rw[jfb]
  unfold stpS
  have:=jim val i
  split
  ·omega
  ·simp;omega
section
variable{prog:Program}{w:World}{A:Around}{R:Result->Shared->Prop}{I:Addr}{fp wr:List Addr}{G:Array GenState->Array GenState->Prop}{n:Nat}{P:Nat->Value->Prop}{St:Nat->Shared->Prop}
theorem jin(x:Str)(t:Tok):(strKind prog w).is x (.str x t)=true:=by
 show Value.isStrOf x (.str x t)=true
 simp[Value.isStrOf]
end
end L2
set_option autoImplicit true
set_option relaxedAutoImplicit true
namespace HT
open PySem PyProof.Rows
section
open PySem.AutoSeq1 (wpAny_loadPart')
open PySem.MeetsSeq PySem.MeetsSeq2 PySem.MeetsSeq3
theorem tuple_add0(l b:Addr)(items2:Array Value)(n n2:Nat)(dd dd2:Option Addr)(sl sl2:Array (Option Value)) :
  Meets (Builtin.«tuple.__add__» ⟨[.ref l,.ref b],[]⟩)
   (λ_ R s=>s.heap.get? l=some {cls:=.type "tuple",dict:=dd,data:=.seq #[] n,slots:=sl}/\s.heap.get? b=some {cls:=.type "tuple",dict:=dd2,data:=.seq items2 n2,slots:=sl2}/\R (.ok (.ret (.ref b))) s) :=
 .of_wp λprog w A R s h=>by
  obtain⟨hp,g,d,tk,os⟩:=s;obtain⟨hl,hb,h⟩:=h
  have f2:=AutoSeq1.sub_tuple_tuple
  wp_walk using U2 hl,U2 hb
  exact⟨_,rfl,h⟩
end
end HT
set_option autoImplicit true
set_option relaxedAutoImplicit true
namespace L2
open PySem PySem.Spec PyProof.Rows
section
variable{X:Cx}
theorem jks(K:PySem.W.Frag)(z:Str)(H:Hp):tyV K "str" (.str z) H=True:=by simp[tyV]
end
section
variable{prog:Program}{w:World}{A:Around}{E:Value->Shared->Prop}{s:Shared}
theorem jjn{h:Heap}{g:Array GenState}{d:Drawn}{t:Nat}{os:OsState}{it a:Addr}{i:Nat}{vs:Array Value}{u:Value}{Q:Value->Shared->Prop}(hi:h.IsTupleIter it a i)(ha:h.IsTuple a vs)(hu:vs[i]?=some u)
  (q:∀h',h'.IsTupleIter it a (i+1)->Heap.SameBut it h h'->Q u ⟨h',g,d,t,os⟩):wpAny (model prog w) A (Builtin.SmallTypes.nextOf (.ref it)) Q E ⟨h,g,d,t,os⟩:=by
 obtain⟨⟨ci,di,dti,si⟩,e1,c1,d1⟩:=id hi
 obtain⟨⟨ca,da,dta,sa⟩,e2,c2,n2,d2⟩:=ha
 dsimp only at c1 d1 c2 d2
 subst c1 d1 c2 d2
 have sl:=PySem.F.slot_tuple_iterator_next
 have hT:(⟨h,g,d,t,os⟩:Shared).TypeIs (.ref it) "tuple_iterator":=hi.typeIs
 have fin:=q _ ⟨_,Oe (Obj.mapFields (·.setIfInBounds 1 (rawInt (i+1)))) e1 rfl,rfl,by simp[Obj.mapFields,rawInt]⟩ (.update ..)
 refine Aa (Oz hT sl (Op sl hT Yc ?_ (W5 _)))
 unfold Builtin.«tuple_iterator.__next__»
 repeat (any_goals (first|assumption|with_reducible refine W6 e1 ?_|with_reducible refine W6 e2 ?_|wp_step))
 have e3:vs[((i:Nat):Int).toNat]?=some u:=hu
 rw[e3]
 exact Aa (Ur e1 rfl (by simp) (Ab ⟨u,rfl,Ab fin⟩))
theorem jjx{h:Heap}{g:Array GenState}{d:Drawn}{t:Nat}{os:OsState}{it a:Addr}{i:Nat}{vs:Array Value}{Q:Value->Shared->Prop}(hh:A.handled=none)(hi:h.IsTupleIter it a i)(ha:h.IsTuple a vs)(hu:vs[i]?=none)
  (q:∀h' e,Heap.ExtBut it h h'->(∃o,h'.get? e=some o/\o.cls=.type "StopIteration")->E (.ref e) ⟨h',g,d,t,os⟩):wpAny (model prog w) A (Builtin.SmallTypes.nextOf (.ref it)) Q E ⟨h,g,d,t,os⟩:=by
 obtain⟨⟨ci,di,dti,si⟩,e1,c1,d1⟩:=id hi
 obtain⟨⟨ca,da,dta,sa⟩,e2,c2,n2,d2⟩:=ha
 dsimp only at c1 d1 c2 d2
 subst c1 d1 c2 d2
 have sl:=PySem.F.slot_tuple_iterator_next
 have hT:(⟨h,g,d,t,os⟩:Shared).TypeIs (.ref it) "tuple_iterator":=hi.typeIs
 have h1:A.in1.handled=none:=hh
 refine Aa (Oz hT sl (Op sl hT Yc ?_ (W5 _)))
 unfold Builtin.«tuple_iterator.__next__»
 repeat (any_goals (first|assumption|with_reducible refine W6 e1 ?_|with_reducible refine W6 e2 ?_|wp_step))
 have e3:vs[((i:Nat):Int).toNat]?=none:=hu
 rw[e3]
 refine Aa (U6 (Aa (Ur e1 rfl (by simp) ?_)))
 unfold Builtin.SmallTypes.stopIteration
 have fm:firstArgMember (.type "StopIteration") []=pure .none:=rfl
 unfold newExc
 repeat (any_goals (first|assumption|rw[fm]|wp_step))
 exact wpAny_raiseNew_none h1 (q _ _ (((Uq ..).extBut.push _).push _) ⟨_,Ai _ rfl,rfl⟩)
theorem jl9(hh:A.handled=none)(it a:Addr)(ne:a≠it)(vs:Array Value):Draws prog w A it [it,a] vs.size (λi v=>vs[i]?=some v) (λi h=>h.IsTupleIter it a i/\h.IsTuple a vs) where
 live:=λ_ _ st=>let⟨o,ho,_⟩:=st.1;⟨o,ho⟩
 frame:=λ_ _ _ st hk=>by
  obtain⟨⟨o,ho,r⟩,⟨o2,ho2,r2⟩⟩:=st
  exact⟨⟨o,hk it (by simp) o ho,r⟩,⟨o2,hk a (by simp) o2 ho2,r2⟩⟩
 item:=λi s Q E hi st hQ=>by
  obtain⟨hp,g,d,t,os⟩:=s
  obtain⟨o2,ho2,r2⟩:=st.2
  exact jjn st.1 st.2 (u:=vs[i]) (by simp[hi]) λh' hit' hs'=>hQ _ h' t (by simp[hi]) ⟨hit',⟨o2,(hs'.2 a ne).trans ho2,r2⟩⟩ hs'
 done:=λs Q E st hE=>by
  obtain⟨hp,g,d,t,os⟩:=s
  exact jjx hh st.1 st.2 (by simp) hE
open AutoSeq1 (wpAny_loadPart')in
end
section
variable{X:Cx}
def jqj:R2:=λx y H Q=>∃a b xs ys,x=.ref a/\y=.ref b/\H a=some (.tup xs)/\H b=some (.tup ys)/\xs.length+ys.length<=sizeLine/\∀p H',Kp [] H H'->H' p=some (.tup (xs++ys))->Q (.ref p) H'
theorem op_addX:OpR X (binaryOp .Add) jqj:=by
 intro pins s σ H x y v u Q I rx ry h
 obtain⟨a,b,xs,ys,rfl,rfl,ha,hb,hz,q⟩:=h
 by_cases hx:xs=[]
 ·subst hx
  cases rx
  cases ry
  obtain⟨its,r1,p1,_⟩:=I.tuple (SqT.of ha)
  obtain⟨its2,r2,p2,_⟩:=I.tuple (SqT.of hb)
  cases r1
  obtain⟨⟨cls,dd,data,sl⟩,ho,hc,n,hd⟩:=id p1
  obtain⟨⟨cls2,dd2,data2,sl2⟩,ho2,hc2,n2,hd2⟩:=id p2
  simp only at hc hd hc2 hd2
  subst hc hd hc2 hd2
  exact concat_meets ⟨_,ho,rfl⟩ ⟨_,ho2,rfl⟩ Ye Y6 Wi Wf (U8 _ _)
   (HT.tuple_add0 a b its2.toArray n n2 dd dd2 sl sl2) ⟨ho,ho2,.ref b,H,I,rfl,q b H (Kp.refl _ _) (by simpa using hb)⟩
 ·exact jb3 pins s σ H _ _ v u Q I rx ry ⟨a,b,xs,ys,rfl,rfl,SqT.of ha,SqT.of hb,hx,hz,λe=>q a H (Kp.refl _ _) (by rw[e,Ug];exact ha),λe p hp=>q p _ ((Kp.refl [] H).new hp) jb⟩
end
structure ZA(z TI TO i1 i2:Addr)(f1 f2:List Addr):Prop where
 TIz:TI≠z
 TOz:TO≠z
 i1z:i1≠z
 i2z:i2≠z
 TITO:TI≠TO
 TIi1:TI≠i1
 TIi2:TI≠i2
 TOi1:TO≠i1
 TOi2:TO≠i2
 i12:i1≠i2
 zf1:z∉f1
 zf2:z∉f2
 Tf1:TO∉f1
 Tf2:TO∉f2
 jf2:i1∉f2
 jf1:i2∉f1
section
variable{prog:Program}{w:World}{A:Around}{E:Value->Shared->Prop}{s:Shared}{i1 i2:Addr}{f1 f2:List Addr}{n1 n2:Nat}{P1 P2:Nat->Value->Prop}{S1 S2:Nat->Heap->Prop}
theorem jcx{it:Addr}{fp:List Addr}{n:Nat}{P:Nat->Value->Prop}{St:Nat->Heap->Prop}(D:Draws prog w A it fp n P St){i:Nat}{h h':Heap}{c:Addr}(st:St i h)(hs:Heap.SameBut c h h')(hc:c∉fp):St i h' :=
 D.frame i h h' st λb hb o e=>hs.extBut b o (λx=>hc (x▸hb)) e
theorem jnd{z TI TO:Addr}{k:Nat}{a b:Value}{Q:Value->Shared->Prop}(D1:Draws prog w A i1 f1 n1 P1 S1)(D2:Draws prog w A i2 f2 n2 P2 S2)(D:ZA z TI TO i1 i2 f1 f2)
  (hz:IsZip s.heap z TI TO .none) (hTI:IsPair s.heap TI (.ref i1) (.ref i2)) (hTO:IsPair s.heap TO a b) (h1:S1 k s.heap) (h2:S2 k s.heap) (l1:k<n1) (l2:k<n2)
  (hQ:∀x y h' tk,P1 k x->P2 k y->IsZip h' z TI TO (rawInt s.heap.objs.size)->IsPair h' TO x y->S1 (k+1) h'->S2 (k+1) h'->IsPair h' s.heap.objs.size x y->h'.objs.size=s.heap.objs.size+1 ->
   (∀c o,c≠z->c≠TO->c≠i1->c≠i2->s.heap.get? c=some o->h'.get? c=some o)->Q (.ref s.heap.objs.size) {s with heap:=h',toks:=tk}) :
  wpAny (model prog w) A (Builtin.«zip.__next__» ⟨[.ref z],[]⟩) (λfin s'=>∃v,fin=.done (.ret v)/\Q v s') E s:=by
 show wpAny _ _ (field (.ref z) 2 >>= _) _ _ _
 refine Aa (Ul hz rfl (x:=.bool false) rfl ?_)
 show wpAny _ _ (field (.ref z) 3 >>= _) _ _ _
 refine Aa (Ul hz rfl (x:=.ref TI) rfl ?_)
 refine Aa (Om hTI rfl ?_)
 show wpAny _ _ (Builtin.SmallTypes.ownedTupleIsFree (.ref z) >>= _) _ _ _
 refine Aa ?_
 unfold Builtin.SmallTypes.ownedTupleIsFree
 refine Aa (Ul hz rfl (x:=.none) rfl (Ab ?_))
 simp only[Uj]
 refine Aa (U6 ?_)
 refine Aa (Ul hz rfl (x:=.ref TO) rfl ?_)
 refine Aa (Uv hz (by simp) λh₁ hz₁ hs₁=>?_)
 replace hz₁:IsZip h₁ z TI TO .ellipsis:=hz₁
 refine Aa ?_
 simp only[List.zipIdx_cons,List.zipIdx_nil,Ui,List.forIn_nil]
 refine Aa (Aa (Y7 ?_))
 show wpAny _ _ (Builtin.SmallTypes.nextOf (.ref i1) >>= _) _ _ _
 refine Aa (D1.item k _ _ _ l1 (jcx D1 h1 hs₁ D.zf1) λx h₂ tk₂ p1 h1₂ hs₂=>Ab ?_)
 have hTO₂:IsPair h₂ TO a b:=hs₂.extBut _ _ D.TOi1 (hs₁.extBut _ _ D.TOz hTO)
 refine Aa (Om hTO₂ rfl ?_)
 refine Aa (Yu hTO₂ λh₃ hTO₃ hs₃=>?_)
 replace hTO₃:IsPair h₃ TO x b:=hTO₃
 refine Aa (Wr (Ab ?_))
 refine Aa (Aa (Y7 ?_))
 show wpAny _ _ (Builtin.SmallTypes.nextOf (.ref i2) >>= _) _ _ _
 refine Aa (D2.item k _ _ _ l2 (jcx D2 (jcx D2 (jcx D2 h2 hs₁ D.zf2) hs₂ D.jf2) hs₃ D.Tf2) λy h₄ tk₄ p2 h2₄ hs₄=>Ab ?_)
 have hTO₄:IsPair h₄ TO x b:=hs₄.extBut _ _ D.TOi2 hTO₃
 refine Aa (Om hTO₄ rfl ?_)
 refine Aa (Yu hTO₄ λh₅ hTO₅ hs₅=>?_)
 replace hTO₅:IsPair h₅ TO x y:=hTO₅
 refine Aa (Wr (Ab (Ab ?_)))
 refine Aa (Om hTO₅ rfl ?_)
 refine Aa (wpAny_newTuple ?_)
 have hsz:h₅.objs.size=s.heap.objs.size:=by rw[hs₅.1,hs₄.1,hs₃.1,hs₂.1,hs₁.1]
 have hz₅:IsZip h₅ z TI TO .ellipsis:=hs₅.extBut _ _ D.TOz.symm (hs₄.extBut _ _ D.i2z.symm (hs₃.extBut _ _ D.TOz.symm (hs₂.extBut _ _ D.i1z.symm hz₁)))
 have hk₅:∀c o,c≠z->c≠TO->c≠i1->c≠i2->s.heap.get? c=some o->h₅.get? c=some o:=λc o c1 c2 c3 c4 e =>
  hs₅.extBut _ _ c2 (hs₄.extBut _ _ c4 (hs₃.extBut _ _ c2 (hs₂.extBut _ _ c3 (hs₁.extBut _ _ c1 e))))
 have h1₅:S1 (k+1) h₅:=jcx D1 (jcx D1 (jcx D1 h1₂ hs₃ D.Tf1) hs₄ D.jf1) hs₅ D.Tf1
 have h2₅:S2 (k+1) h₅:=jcx D2 h2₄ hs₅ D.Tf2
 have hzlt:z<h₅.objs.size:=Al hz₅
 show wpAny _ _ (Builtin.SmallTypes.ownedTupleHandOut (.ref z) (.ref h₅.objs.size) >>= _) _ _ _
 refine Aa ?_
 unfold Builtin.SmallTypes.ownedTupleHandOut
 have hz₆:IsZip (h₅.push {cls:=.type "tuple",data:=.seq #[x,y]}) z TI TO .ellipsis:=Ac _ hz₅
 refine Aa (Uv hz₆ (by simp) λh₇ hz₇ hs₇=>?_)
 replace hz₇:IsZip h₇ z TI TO (rawInt h₅.objs.size):=hz₇
 refine Uv hz₇ (by simp) λh₈ hz₈ hs₈=>?_
 replace hz₈:IsZip h₈ z TI TO (rawInt h₅.objs.size):=hz₈
 have up:∀c o,c≠z->h₅.get? c=some o->h₈.get? c=some o:=λc o c1 e=>hs₈.extBut _ _ c1 (hs₇.extBut _ _ c1 (Ac _ e))
 have hT₈:IsPair h₈ h₅.objs.size x y:=hs₈.extBut _ _ (Uk hzlt) (hs₇.extBut _ _ (Uk hzlt) (Ai _ rfl))
 have hz8:h₈.objs.size=h₅.objs.size+1:=by rw[hs₈.1,hs₇.1,Az]
 have h1₈:S1 (k+1) h₈:=D1.frame _ _ _ h1₅ λc hc o e=>up c o (λq=>D.zf1 (q▸hc)) e
 have h2₈:S2 (k+1) h₈:=D2.frame _ _ _ h2₅ λc hc o e=>up c o (λq=>D.zf2 (q▸hc)) e
 have hk₈:∀c o,c≠z->c≠TO->c≠i1->c≠i2->s.heap.get? c=some o->h₈.get? c=some o:=λc o c1 c2 c3 c4 e=>up c o c1 (hk₅ c o c1 c2 c3 c4 e)
 rw[hsz]at hz₈ hT₈ hz8
 refine Ab ⟨_,rfl,?_⟩
 show Q (.ref h₅.objs.size) _
 rw[hsz]
 exact hQ x y h₈ _ p1 p2 hz₈ (up _ _ D.TOz hTO₅) h1₈ h2₈ hT₈ hz8 hk₈
theorem joe{z TI TO:Addr}{k:Nat}{a b:Value}{Q:Fin->Shared->Prop}(D1:Draws prog w A i1 f1 n1 P1 S1)(D2:Draws prog w A i2 f2 n2 P2 S2)(D:ZA z TI TO i1 i2 f1 f2)
  (hz:IsZip s.heap z TI TO .none) (hTI:IsPair s.heap TI (.ref i1) (.ref i2)) (hTO:IsPair s.heap TO a b) (h1:S1 k s.heap) (h2:S2 k s.heap) (hend:k=n1\/k<n1/\k=n2)
  (hE:∀h' tk e,(∀c o,c≠z->c≠TO->c≠i1->c≠i2->s.heap.get? c=some o->h'.get? c=some o)->(∃o,h'.get? e=some o/\o.cls=.type "StopIteration")->E (.ref e) {s with heap:=h',toks:=tk}) :
  wpAny (model prog w) A (Builtin.«zip.__next__» ⟨[.ref z],[]⟩) Q E s:=by
 show wpAny _ _ (field (.ref z) 2 >>= _) _ _ _
 refine Aa (Ul hz rfl (x:=.bool false) rfl ?_)
 show wpAny _ _ (field (.ref z) 3 >>= _) _ _ _
 refine Aa (Ul hz rfl (x:=.ref TI) rfl ?_)
 refine Aa (Om hTI rfl ?_)
 show wpAny _ _ (Builtin.SmallTypes.ownedTupleIsFree (.ref z) >>= _) _ _ _
 refine Aa ?_
 unfold Builtin.SmallTypes.ownedTupleIsFree
 refine Aa (Ul hz rfl (x:=.none) rfl (Ab ?_))
 simp only[Uj]
 refine Aa (U6 ?_)
 refine Aa (Ul hz rfl (x:=.ref TO) rfl ?_)
 refine Aa (Uv hz (by simp) λh₁ hz₁ hs₁=>?_)
 replace hz₁:IsZip h₁ z TI TO .ellipsis:=hz₁
 refine Aa ?_
 simp only[List.zipIdx_cons,List.zipIdx_nil,Ui,List.forIn_nil]
 refine Aa (Aa (Y7 ?_))
 show wpAny _ _ (Builtin.SmallTypes.nextOf (.ref i1) >>= _) _ _ _
 rcases hend with e|⟨lt,e⟩
 ·subst e
  refine Aa (D1.done _ _ _ (jcx D1 h1 hs₁ D.zf1) λh₂ e hs₂ he=>?_)
  obtain⟨oe,hoe,hce⟩:=he
  have hz₂:IsZip h₂ z TI TO .ellipsis:=hs₂ _ _ D.i1z.symm hz₁
  have hez:e≠z:=λx=>by subst x;rw[hz₂]at hoe;cases hoe;simp at hce
  refine Uv hz₂ (by simp) λh₃ _ hs₃=>hE h₃ _ e (λc o c1 _ c3 _ x=>hs₃.extBut _ _ c1 (hs₂ _ _ c3 (hs₁.extBut _ _ c1 x))) ⟨oe,hs₃.extBut _ _ hez hoe,hce⟩
 ·subst e
  refine Aa (D1.item k _ _ _ lt (jcx D1 h1 hs₁ D.zf1) λx h₂ tk₂ p1 h1₂ hs₂=>Ab ?_)
  have hTO₂:IsPair h₂ TO a b:=hs₂.extBut _ _ D.TOi1 (hs₁.extBut _ _ D.TOz hTO)
  refine Aa (Om hTO₂ rfl ?_)
  refine Aa (Yu hTO₂ λh₃ hTO₃ hs₃=>?_)
  refine Aa (Wr (Ab ?_))
  refine Aa (Aa (Y7 ?_))
  show wpAny _ _ (Builtin.SmallTypes.nextOf (.ref i2) >>= _) _ _ _
  refine Aa (D2.done _ _ _ (jcx D2 (jcx D2 (jcx D2 h2 hs₁ D.zf2) hs₂ D.jf2) hs₃ D.Tf2) λh₄ e hs₄ he=>?_)
  obtain⟨oe,hoe,hce⟩:=he
  have hz₄:IsZip h₄ z TI TO .ellipsis:=hs₄ _ _ D.i2z.symm (hs₃.extBut _ _ D.TOz.symm (hs₂.extBut _ _ D.i1z.symm hz₁))
  have hez:e≠z:=λx=>by subst x;rw[hz₄]at hoe;cases hoe;simp at hce
  refine Uv hz₄ (by simp) λh₅ _ hs₅=>hE h₅ _ e (λc o c1 c2 c3 c4 x=>hs₅.extBut _ _ c1 (hs₄ _ _ c4 (hs₃.extBut _ _ c2 (hs₂.extBut _ _ c3 (hs₁.extBut _ _ c1 x))))) ⟨oe,hs₅.extBut _ _ hez hoe,hce⟩
theorem jgg{z TI TO:Addr}{k:Nat}{a b:Value}{Q:Option Value->Shared->Prop}(D1:Draws prog w A.in1 i1 f1 n1 P1 S1)(D2:Draws prog w A.in1 i2 f2 n2 P2 S2)(D:ZA z TI TO i1 i2 f1 f2)
  (hz:IsZip s.heap z TI TO .none) (hTI:IsPair s.heap TI (.ref i1) (.ref i2)) (hTO:IsPair s.heap TO a b) (h1:S1 k s.heap) (h2:S2 k s.heap) (l1:k<n1) (l2:k<n2)
  (hQ:∀x y h' tk,P1 k x->P2 k y->IsZip h' z TI TO (rawInt s.heap.objs.size)->IsPair h' TO x y->S1 (k+1) h'->S2 (k+1) h'->IsPair h' s.heap.objs.size x y->h'.objs.size=s.heap.objs.size+1 ->
   (∀c o,c≠z->c≠TO->c≠i1->c≠i2->s.heap.get? c=some o->h'.get? c=some o)->Q (some (.ref s.heap.objs.size)) {s with heap:=h',toks:=tk}) :
  wpAny (model prog w) A (pyNext (.ref z)) Q E s:=by
 have hT:s.TypeIs (.ref z) "zip":=⟨_,hz,rfl⟩
 unfold pyNext
 exact Aa (Y8 (Oz (name:=Str.ofString "__next__") hT Wl
  (Op Wl hT PySem.F.entry_zip_next
   (jnd D1 D2 D hz hTI hTO h1 h2 l1 l2 λx y h' tk p1 p2 a1 a2 a3 a4 a5 a6 a7=>Ab (hQ x y h' tk p1 p2 a1 a2 a3 a4 a5 a6 a7)) (PySem.F.args_zip_next_1 _))))
theorem jhm{z TI TO:Addr}{k:Nat}{a b:Value}{Q:Option Value->Shared->Prop}(D1:Draws prog w A.in1 i1 f1 n1 P1 S1)(D2:Draws prog w A.in1 i2 f2 n2 P2 S2)(D:ZA z TI TO i1 i2 f1 f2)
  (hz:IsZip s.heap z TI TO .none) (hTI:IsPair s.heap TI (.ref i1) (.ref i2)) (hTO:IsPair s.heap TO a b) (h1:S1 k s.heap) (h2:S2 k s.heap) (hend:k=n1\/k<n1/\k=n2)
  (hQ:∀h' tk,(∀c o,c≠z->c≠TO->c≠i1->c≠i2->s.heap.get? c=some o->h'.get? c=some o)->Q none {s with heap:=h',toks:=tk}):wpAny (model prog w) A (pyNext (.ref z)) Q E s:=by
 have hT:s.TypeIs (.ref z) "zip":=⟨_,hz,rfl⟩
 unfold pyNext
 refine Aa (Y8 (Oz (name:=Str.ofString "__next__") hT Wl
  (Op Wl hT PySem.F.entry_zip_next (joe D1 D2 D hz hTI hTO h1 h2 hend λh' tk e hk he=>?_) (PySem.F.args_zip_next_1 _))))
 obtain⟨o,ho,hc⟩:=he
 refine Aa (Wb (T:="StopIteration") (b:=true) ⟨o,ho,hc⟩ isSubtype_stop ?_)
 exact Ab (hQ _ _ hk)
theorem jdn{z TI TO:Addr}(D1:Draws prog w A.in1 i1 f1 n1 P1 S1)(D2:Draws prog w A.in1 i2 f2 n2 P2 S2)(D:ZA z TI TO i1 i2 f1 f2) :
  WalksT prog w A z ([z,TI,TO,i1,i2]++f1++f2) [z,TO,i1,i2] (min n1 n2) (λi vals=>∃x y,P1 i x/\P2 i y/\vals=#[x,y])
   (λi h=>IsZip h z TI TO .none/\IsPair h TI (.ref i1) (.ref i2)/\(∃a b,IsPair h TO a b)/\S1 i h/\S2 i h)
   (λi T h=>IsZip h z TI TO (rawInt T)/\IsPair h TI (.ref i1) (.ref i2)/\(∃a b,IsPair h TO a b)/\S1 (i+1) h/\S2 (i+1) h/\T≠z/\T≠TO/\T≠i1/\T≠i2) where
 sub:=λc hc=>by simp at hc⊢;rcases hc with rfl|rfl|rfl|rfl <;> simp
 frame:=λi h h' hst hk=>by
  obtain⟨hz,hTI,⟨a,b,hTO⟩,h1,h2⟩:=hst
  exact⟨hk z (by simp) _ hz,hk TI (by simp) _ hTI,⟨a,b,hk TO (by simp) _ hTO⟩,D1.frame _ _ _ h1 λb hb o e=>hk b (by simp[hb]) o e,D2.frame _ _ _ h2 λb hb o e=>hk b (by simp[hb]) o e⟩
 item:=λi s Q E hi hst hQ=>by
  obtain⟨hz,hTI,⟨a,b,hTO⟩,h1,h2⟩:=hst
  refine jgg D1 D2 D hz hTI hTO h1 h2 (A0 hi (Nat.min_le_left ..)) (A0 hi (Nat.min_le_right ..)) λx y h' tk p1 p2 a1 a2 a3 a4 a5 a6 hk=>?_
  have lt:∀{c o},s.heap.get? c=some o->s.heap.objs.size≠c:=λe=>Uk (Al e)
  obtain⟨o1,e1⟩:=D1.live _ _ h1
  obtain⟨o2,e2⟩:=D2.live _ _ h2
  exact hQ s.heap.objs.size #[x,y] h' tk ⟨x,y,p1,p2,rfl⟩ (Af _) ⟨_,a5,rfl,_,rfl⟩
   ⟨a1,hk _ _ D.TIz D.TITO D.TIi1 D.TIi2 hTI,⟨_,_,a2⟩,a3,a4,lt hz,lt hTO,lt e1,lt e2⟩
   λc o hc e=>hk c o (λx=>hc (by simp[x])) (λx=>hc (by simp[x])) (λx=>hc (by simp[x])) (λx=>hc (by simp[x])) e
 go:=λelts k pos i T s Q E hm hQ=>by
  obtain⟨hz,hTI,⟨a,b,hTO⟩,h1,h2,_⟩:=hm
  refine wpAny_letOwnedTupleGo_zip hz λh' hz' hs'=>hQ h' ⟨hz',hs'.extBut _ _ D.TIz hTI,⟨a,b,hs'.extBut _ _ D.TOz hTO⟩,jcx D1 h1 hs' D.zf1,jcx D2 h2 hs' D.zf2⟩ λc o hc e=>hs'.extBut _ _ (λx=>hc (by simp[x])) e
 apart:=λi T h hm hT=>by
  obtain⟨_,_,_,_,_,t1,t2,t3,t4⟩:=hm
  simp at hT
  rcases hT with rfl|rfl|rfl|rfl
  ·exact t1 rfl
  ·exact t2 rfl
  ·exact t3 rfl
  ·exact t4 rfl
 done:=λs Q E hst hQ=>by
  obtain⟨hz,hTI,⟨a,b,hTO⟩,h1,h2⟩:=hst
  exact jhm D1 D2 D hz hTI hTO h1 h2 (by omega) λh' tk hk=>hQ h' tk λc o hc e =>
   hk c o (λx=>hc (by simp[x])) (λx=>hc (by simp[x])) (λx=>hc (by simp[x])) (λx=>hc (by simp[x])) e
 self:=λi s Q E hst hQ=>Wn hst.1 hQ
end
theorem Inv.walked{X:Cx}{pins:List (Addr×Obj)}{σ:L2.St}{H:Hp}{s:Shared}{h':Heap}{t':Nat}{wr:List Addr}(I:Inv X pins σ H s)(hf:∀b∈wr,FpOk X pins H b)(k:∀b o,b∉wr->s.heap.get? b=some o->h'.get? b=some o) :
  Inv X pins σ H {s with heap:=h',toks:=t'}:=by
 have nw:∀b u,H b=some u->b∉wr:=λb u e hb=>by rw[(hf b hb).1]at e;cases e
 refine I.step (g':=s.gens) (d':=s.drawn) (ch:=wr) (λb hb=>?_) (λb o _ _ hc e _=>k b o hc e) (λb o _ _ hc e _=>⟨o.slots,k b o hc e⟩) (λb o hc e n=>n) (λb o hc e=>⟨o,k b o hc e⟩)
  (λ_ _ e=>e) (λ_ _ _ e=>e) (λb ps e=>⟨#[],by rw[e];simp⟩) (λm hm=>?_) (λb u e=>?_) I.bare
 ·obtain⟨_,f1,_,f3,f4,f5⟩:=hf b hb
  exact⟨f3,f1,f4,f5⟩
 ·obtain⟨o,es,ep,ho,rr⟩:=hm
  exact⟨o,es,ep,k _ o (λz=>(hf _ z).2.1 rfl) ho,rr⟩
 ·refine(I.hok b u e).stay (λd v hd q=>k d v ?_ q) (λ_ q=>q) λ_ _ q=>q
  rcases hd with rfl|hd
  ·exact nw _ _ e
  ·exact nw _ _ hd
section
abbrev ztO(a:Addr):Obj:={cls:=.type "tuple_iterator",data:=.fields #[.ref a,.int 0 0]}
end
def jer(ks:Nat->Key)(vs:Nat->Value):Nat->List (Key×Value)
 |0=>[]
 |i+1=>stored (jer ks vs i) (ks i) (vs i)
theorem jef(ks:Nat->Key)(vs:Nat->Value):∀i,(jer ks vs i).length<=i
 |0=>Af 0
 |i+1=>by
  have ih:=jef ks vs i
  show(stored _ _ _).length<=_
  unfold stored
  split
  ·rw[Ad];omega
  ·rw[Aw];simp;omega
section
variable{P:Program}{w:World}{A:Around}{R:Result->Shared->Prop}{I:Addr}{fp wr:List Addr}{n:Nat}{Pv:Nat->Value->Prop}{St:Nat->Heap->Prop}
theorem jii{h h':Heap}{D:Addr}{kvs:List (Key×Value)}(x:h.DictOf (jck P w) D kvs)(e:∀o,h.get? D=some o->h'.get? D=some o):h'.DictOf (jck P w) D kvs :=
 let⟨o,es,ep,h1,r⟩:=x
 ⟨o,es,ep,e _ h1,r⟩
theorem jnm(W:Walks P w A.in1 I fp wr n Pv St)(D:Addr)(hDf:D∉fp)(hu:A.in1.units<cLine)(h0:Heap)(hw0:∀b∈wr,h0.get? b=none)(hD0:h0.get? D=none)(ks:Nat->Key)(bs:Nat->Value)(vs:Nat->Value)
  (hit:∀i v,i<n->Pv i v->∃t o c,v=.ref t/\h0.get? t=some o/\o.cls=.type "tuple"/\o.data=.seq #[bs i,vs i] c) (hkey:∀i,i<n->(jck P w).is (ks i) (bs i)=true) (hn:n<=sizeLine) :
  ∀(k i:Nat)(s:Shared),n-i=k->i<=n->St i s.heap->s.heap.DictOf (jck P w) D (jer ks vs i)->(∀b o,h0.get? b=some o->s.heap.get? b=some o) ->
   (∀h' tk',h'.DictOf (jck P w) D (jer ks vs n)->(∀b o,h0.get? b=some o->h'.get? b=some o)->R (.ok (.ret .none)) {s with heap:=h',toks:=tk'}) ->
   codeAny (model P w) A (.builtin "dict.update.loop" ⟨[.ref D,.ref I,rawInt (i:Int),.none],[]⟩) R s:=by
 have hDw:D∉wr:=λh=>hDf (W.sub _ h)
 have base:∀(h h':Heap),(∀b o,h0.get? b=some o->h.get? b=some o)->(∀b o,b∉wr->h.get? b=some o->h'.get? b=some o)->∀b o,h0.get? b=some o->h'.get? b=some o :=
  λh h' k1 k2 b o e=>k2 b o (λz=>by rw[hw0 b z]at e;cases e) (k1 b o e)
 intro k
 induction k with
 |zero =>
  intro i s hk hi hst hd kb hR
  have hin:i=n:=by omega
  subst hin
  refine Ot jij ?_
  rw[Od jd6 _]
  show wpAny _ A.in1 (pyNext (.ref I) >>= _) _ _ s
  refine Aa (W.done s _ _ hst λh' tk' hm=>?_)
  show wpAny _ A.in1 (Builtin.Dict.addKeywords D [] >>= λ_=>ret Value.none) _ _ _
  refine Aa (Ab (Ab ?_))
  have kb':=base _ _ kb hm
  exact hR h' tk' (jii hd (λo e=>hm D o hDw e)) kb'
 |succ k ih =>
  intro i s hk hi hst hd kb hR
  have hin:i<n:=by omega
  refine Ot jij ?_
  rw[Od jd6 _]
  show wpAny _ A.in1 (pyNext (.ref I) >>= _) _ _ s
  refine Aa (W.item i s _ _ hin hst λv h' tk' hv hst' hm=>?_)
  have kb':=base _ _ kb hm
  obtain⟨t,o,c,rfl,ho,hoc,hod⟩:=hit i v hin hv
  have ho':=kb' _ _ ho
  have hd':=jii hd (λo e=>hm D o hDw e)
  refine Aa (On ?_)
  refine Aa (Wm ?_)
  unfold Builtin.Dict.pairItems
  refine Aa (U9 (T:="tuple") ⟨o,ho',hoc⟩ ?_)
  rw[Ap (by decide)]
  refine Aa (Om ho' hod (Ab ?_))
  show wpAny _ A.in1 (holding [bs i,vs i] (dictSet D (bs i) (vs i))) _ _ _
  have hlen:=jef ks vs i
  refine On (wpAny_dictSet_pairs (hsz:=by omega) (knd:=jck P w) (hkey i hin) hd' λh2 hd2 hs=>?_)
  refine Ab ⟨Ua jd6 _,?_⟩
  have kD:∀b o,h0.get? b=some o->b≠D:=λb o e z=>by rw[z,hD0]at e;cases e
  have kb2:∀b o,h0.get? b=some o->h2.get? b=some o:=λb o e=>(hs.2 b (kD b o e)).trans (kb' b o e)
  have e1:rawInt ((i:Int)+1)=rawInt ((i+1:Nat):Int):=by simp
  rw[e1]
  refine ih (i+1) _ (by omega) (by omega) (W.frame _ _ _ hst' λb hb o e=>(hs.2 b (λz=>hDf (z▸hb))).trans e) hd2 kb2 λh3 tk3 hd3 kb3=>?_
  exact hR h3 tk3 hd3 kb3
theorem jnl{E:Value->Shared->Prop}{s:Shared}{Q:Value->Shared->Prop}{l:Addr}{items:Array Value}(hh:A.handled=none)(hu:A.in1.in1.units<cLine)(hl:s.heap.IsList l items)(hnd:∀o,s.heap.get? l=some o->o.dict=none)(ks:Nat->Key)(bs:Nat->Value)(vs:Nat->Value)
  (hit:∀i v,items[i]?=some v->∃t o c,v=.ref t/\s.heap.get? t=some o/\o.cls=.type "tuple"/\o.data=.seq #[bs i,vs i] c) (hkey:∀i,i<items.size->(jck P w).is (ks i) (bs i)=true) (hn:items.size<=sizeLine)
  (hQ:∀h' tk',h'.DictOf (jck P w) s.heap.objs.size (jer ks vs items.size)->(∀b o,s.heap.get? b=some o->h'.get? b=some o)->Q (.ref s.heap.objs.size) {s with heap:=h',toks:=tk'}) :
  wpAny (model P w) A (call (.type "dict") [.ref l]) Q E s:=by
 refine callType_codes (Q₁:=λobj s1=>obj=.ref s.heap.objs.size/\s1={s with heap:=s.heap.push {cls:=.type "dict",data:=.dict #[]}}) F.kt_called_dict (F.kt_typeCall_dict_1 _) F.entry_dict_init (kt_code_dict_new _ ⟨rfl,rfl⟩) λobj s1 hs1=>?_
 obtain⟨rfl,rfl⟩:=hs1
 have hnew:(s.heap.push {cls:=.type "dict",data:=.dict #[]}).DictOf (jck P w) s.heap.objs.size []:=Heap.DictOf.new s.heap
 have hl1:=hl.push {cls:=.type "dict",data:=.dict #[]}
 refine⟨hnew.typeIs,F.args_dict_init_2 _ _,?_⟩
 unfold Builtin.«dict.__init__»
 refine Aa ?_
 unfold Builtin.Dict.selfAndRest
 refine Aa (wpAny_notOrdered_dict hnew.typeIs ?_)
 refine(show wpAny _ _ (pure (s.heap.objs.size,[Value.ref l])) _ _ _ from Ab ?_)
 show wpAny _ _ (Builtin.Dict.updateFrom "dict.__init__" s.heap.objs.size (.ref l) [] .none) _ _ _
 unfold Builtin.Dict.updateFrom
 refine Aa (U9 hl1.typeIs ?_)
 rw[Ap (by decide)]
 refine Aa ?_
 unfold getAttr?
 refine Aa (wpAny_mkText ?_)
 unfold getAttrBy?
 obtain⟨ol,hol0,hoc,n0,hod⟩:=id hl
 have hol:=Ac {cls:=.type "dict",data:=.dict #[]} hol0
 refine Aa (Y8 (jou hol hoc hod (hnd _ hol0) hh λh' tk1 e hx=>?_))
 obtain⟨ob,fs,he,hec,_⟩:=hx.there
 refine Aa (Wb (T:="AttributeError") (b:=true) ⟨ob,he,hec⟩ sub_AttributeError ?_)
 rw[Ap rfl]
 refine Ab ?_
 rw[Ap (show(Option.isNone (none:Option Value))=true from rfl)]
 refine Aa (U6 ?_)
 have keep1:∀b o,s.heap.get? b=some o->h'.get? b=some o:=λb o e=>hx.keeps _ _ (Ac _ e)
 have hl2:h'.IsList l items:=⟨ol,keep1 _ _ hol0,hoc,n0,hod⟩
 have nov:∀a,s.heap.objs.size<=a->s.heap.get? a=none:=λa ha=>by
  cases q:s.heap.get? a with
  |none=>rfl
  |some o=>exact absurd (Al q) (Nat.not_lt.mpr ha)
 have hD':h'.DictOf (jck P w) s.heap.objs.size []:=by
  obtain⟨o,es,ep,q1,q2⟩:=hnew
  exact⟨o,es,ep,hx.keeps _ _ q1,q2⟩
 have hDlt:s.heap.objs.size<h'.objs.size:=by obtain⟨o,_,_,q1,_⟩:=hD';exact Al q1
 have hllt:l<s.heap.objs.size:=Al hol0
 refine Aa (O3 hl2 ?_)
 refine Ab ⟨Ua jd6 _,?_⟩
 have nlI:l≠h'.objs.size:=Ao (Nat.lt_trans hllt hDlt)
 have W:=Ys (prog:=P) (w:=w) (A:=A.in1.in1) hh h'.objs.size l nlI items
 refine jnm W s.heap.objs.size (λhm=>?_) hu s.heap (λb hb=>?_) (nov _ (Af _)) ks bs vs (λi v hi hv=>hit i v hv) hkey hn items.size 0 _ (by omega) (Ou _) ⟨⟨_,Ai _ rfl,rfl,rfl⟩,hl2.push _⟩ ?_ (λb o e=>Ac _ (keep1 b o e)) (λh3 tk3 hd3 kb3=>?_)
 ·rcases Ar.mp hm with q|q
  ·exact Ao hDlt q
  ·exact Uk hllt (Ah.mp q)
 ·rw[Ah.mp hb]
  exact nov _ (Wt hDlt)
 ·obtain⟨o,es,ep,q1,q2⟩:=hD'
  exact⟨o,es,ep,Ac _ q1,q2⟩
 ·exact⟨rfl,hQ h3 tk3 hd3 kb3⟩
end
section
variable{X:Cx}
theorem jeo:∀{ss:List Str}{its:List Value},StrsAre its ss->Vals (ss.map V.str) its
 |_,_,.nil=>.nil
 |_,_,.cons x t r=>.cons ⟨t,rfl⟩ (jeo r)
def PairsK(H:Hp)(ys:List V)(kvs:List (Key×V)):Prop:=Paired (λy (kv:Key×V)=>∃t,y=.ref t/\H t=some (.tup [kV kv.1,kv.2])) ys kvs
def jc8(kvs:List (Key×V)):List (Key×V):=kvs.foldl (λd kv=>putK d kv.1 kv.2) []
theorem PairsK.get:∀{H:Hp}{ys:List V}{kvs:List (Key×V)}{i:Nat}{y:V},PairsK H ys kvs->ys[i]?=some y->∃kv t,kvs[i]?=some kv/\y=.ref t/\H t=some (.tup [kV kv.1,kv.2])
 |_,_,_,i,y,.nil,e=>by simp at e
 |_,_,_,0,y,.cons (b:=kv) ⟨t,q⟩ _,e=>by simp at e;subst e;exact⟨kv,t,rfl,q⟩
 |_,_,_,i+1,y,.cons _ r,e=>by simp at e;obtain⟨kv,t,h⟩:=PairsK.get (kvs:=_) r e;exact⟨kv,t,by simpa using h.1,h.2⟩
def rDictK:List V->Hp->VK->Prop:=λxs H Q=>match xs with
 |[.ref l]=>(∃ys kvs,H l=some (.lst ys)/\PairsK H ys kvs/\∀p,H p=none->Q (.ref p) (upd H p (.dK (jc8 kvs))))\/(∃kvs,H l=some (.dK kvs)/\∀p,H p=none->Q (.ref p) (upd H p (.dK kvs)))
 |_=>False
theorem rDictK.of{l:Addr}{H:Hp}{Q:VK}{ys:List V}{kvs:List (Key×V)}(e:H l=some (.lst ys))(h:PairsK H ys kvs)(q:∀p,H p=none->Q (.ref p) (upd H p (.dK (jc8 kvs)))):rDictK [.ref l] H Q:=.inl ⟨ys,kvs,e,h,q⟩
theorem rDictK.copy{l:Addr}{H:Hp}{Q:VK}{kvs:List (Key×V)}(e:H l=some (.dK kvs))(q:∀p,H p=none->Q (.ref p) (upd H p (.dK kvs))):rDictK [.ref l] H Q:=.inr ⟨kvs,e,q⟩
theorem jag(hc:X.calm=true)(hu:X.A.units+64<cLine):jct X (.type "dict") rDictK:=by
 intro pins s σ H xs us Q I r h
 unfold rDictK at h
 split at h
 ·rename_i l
  obtain⟨u,rfl,ru⟩:=jc6 r
  cases ru
  rcases h with⟨ys,kvs,e,hp,q⟩|⟨kvs,e,q⟩
  ·obtain⟨its,rr,pl,hz⟩:=I.list (SqL.of e)
   have hl:ys.length=its.length:=rr.length
   have hlk:ys.length=kvs.length:=Au hp
   have fn:∀i,∃p:Key×Value×Value,i<its.length->∃kv t o c,kvs[i]?=some kv/\p.1=kv.1/\its[i]?=some (.ref t)/\s.heap.get? t=some o/\o.cls=.type "tuple"/\o.data=.seq #[p.2.1,p.2.2] c /\
     RelV (kV kv.1) p.2.1/\RelV kv.2 p.2.2:=by
    intro i
    by_cases hi:i<its.length
    ·have hy:ys[i]?=some (ys[i]'(by omega)):=by simp
     obtain⟨kv,t,h1,h2,h3⟩:=hp.get hy
     obtain⟨u,hu1,hu2⟩:=rr.get hy
     rw[h2]at hu2
     cases hu2
     obtain⟨_,its2,r2,o,q1,q2,n,q3⟩:=(show ObjOk X.prog X.w H s.heap t (.tup [kV kv.1,kv.2])from I.hok t _ h3)
     obtain⟨u1,u2,rfl,ru1,ru2⟩:=r2.two
     exact⟨(kv.1,u1,u2),λ_=>⟨kv,t,o,n,h1,rfl,hu1,q1,q2,q3,ru1,ru2⟩⟩
    ·exact⟨(.inl 0,.none,.none),λz=>absurd z hi⟩
   obtain⟨f,hf⟩:=Classical.skolem.mp fn
   have kt:∀i,i<=its.length->KV (jc8 (kvs.take i)) (jer (λi=>(f i).1) (λi=>(f i).2.2) i):=by
    intro i
    induction i with
    |zero=>intro _;exact .nil
    |succ i ih =>
     intro hi
     obtain⟨kv,t,o,c,h1,h2,h3,h4,h5,h6,h7,h8⟩:=hf i (by omega)
     have e1:jc8 (kvs.take (i+1))=putK (jc8 (kvs.take i)) kv.1 kv.2:=by
      rw[O2,h1]
      simp[jc8,W4]
     rw[e1]
     show KV _ (stored _ _ _)
     rw[<-h2]
     exact(ih (by omega)).put _ h8
   have hs:sizeLine=16777216:=W9
   obtain⟨ol,nl,w1,w2,w3,w4⟩:=id pl
   refine jnl (P:=X.prog) (w:=X.w) (I.ok.hd hc) (by show X.A.units+1+1<cLine;omega) pl.isList (λo e=>by rw[w1]at e;cases e;exact w3) (λi=>(f i).1) (λi=>(f i).2.1) (λi=>(f i).2.2) (λi v hv=>?_) (λi hi=>?_) (by simpa using(by omega:its.length<=sizeLine)) λh' tk' hd kb=>?_
   ·have hv':its[i]?=some v:=by simpa using hv
    have hi:i<its.length:=(Ag.mp hv').1
    obtain⟨kv,t,o,c,h1,h2,h3,h4,h5,h6,h7,h8⟩:=hf i hi
    rw[h3]at hv'
    cases hv'
    exact⟨t,o,c,rfl,h4,h5,h6⟩
   ·obtain⟨kv,t,o,c,h1,h2,h3,h4,h5,h6,h7,h8⟩:=hf i (by simpa using hi)
    show(jck X.prog X.w).is (f i).1 (f i).2.1=true
    rw[h2]
    exact jft h7
   ·have kt1:=kt its.length (Af _)
    rw[Iq (by omega)]at kt1
    have hfl:=jef (λi=>(f i).1) (λi=>(f i).2.2) its.length
    have hpl:(jc8 kvs).length<=sizeLine:=by have:=Au kt1;omega
    have hfr:H s.heap.objs.size=none:=I.hok.fresh (Af _)
    rw[Aj]at hd
    refine⟨.ref s.heap.objs.size,upd H s.heap.objs.size (.dK (jc8 kvs)),I.laid (t':=tk') kb (Af _) (jfl hpl ?_ kt1 hd),rfl,q _ hfr⟩
    have:=I.big
    exact O5.mpr (Uk this)
  ·exact jnj I (.inl e) λp s' hp I'=>⟨.ref p,_,I',rfl,q p hp⟩
 ·exact h.elim
def kI(p:Key×Int):Key×V:=(p.1,.int p.2)
theorem jna:∀{kvs:List (Key×Int)}{p:Key×Int},(kvs.map Prod.fst).Nodup->p∈kvs->valV (kvs.map kI) p.1=some (.int p.2)
 |q::kvs,p,nd,hp=>by
  rw[A9,Uh]at nd
  rcases Ar.mp hp with rfl|hp
  ·simp[valV,kI]
  ·have hne:q.1≠p.1:=λe=>nd.1 (e▸Ay.mpr ⟨p,hp,rfl⟩)
   have ih:=jna nd.2 hp
   simp only[valV,A9,List.find?_cons]at ih⊢
   rw[show decide ((kI q).1=p.1)=false from Ir hne]
   exact ih
theorem jj8{A:Around}{s:Shared}{kvs:List (Key×Int)}{vb:List (Key×Value)}(rb:KV (kvs.map kI) vb)(nd:(kvs.map Prod.fst).Nodup):∀{l:List (Key×Int)}{va:List (Key×Value)},KV (l.map kI) va->(∀p∈l,p∈kvs)->PySem.W.KeqHits A s vb va true
 |[],_,.nil,_=>.nil
 |p::l,_,.cons (b:=q) ⟨e1,e2⟩ r,h=>by
  obtain⟨k,v⟩:=q
  obtain⟨t,rfl⟩:=(show ∃t,v=Value.int p.2 t from e2)
  have hv:=jna nd (h p (.head _))
  obtain⟨w',hw,rw'⟩:=RelO.some_of (v:=.int p.2) (o:=valueAt vb p.1) (by rw[<-hv];exact rb.val p.1)
  obtain⟨t',rfl⟩:=(show ∃t,w'=Value.int p.2 t from rw')
  have e:k=p.1:=e1.symm
  subst e
  have x:=PySem.W.keq_flat (A:=A) (s:=s) (v:=.int p.2 t) (y:=.int p.2 t') (d:=.int p.2) (e:=.int p.2) (λ_=>Reads.int _ _) (λ_=>Reads.int _ _)
  have ev:PyData.eqv (.int p.2) (.int p.2)=true:=by simp[PyData.eqv]
  rw[ev]at x
  exact PySem.W.KeqHits.hit (e:=true) (b:=true) hw x (jj8 rb nd r λq hq=>h q (.tail _ hq))
end
section
abbrev zlO(a:Addr):Obj:={cls:=.type "list_iterator",data:=.fields #[.ref a,.int 0 0]}
structure ZML(h h':Heap)(a b:Addr):Prop where
 z:IsZip h' (h.objs.size+4) (h.objs.size+2) (h.objs.size+3) .none
 ti:IsPair h' (h.objs.size+2) (.ref h.objs.size) (.ref (h.objs.size+1))
 to:IsPair h' (h.objs.size+3) .none .none
 i1:h'.IsListIter h.objs.size a 0
 i2:h'.IsListIter (h.objs.size+1) b 0
 old:∀c o,h.get? c=some o->h'.get? c=some o
def zlH(h:Heap)(a b:Addr):Heap:=((((h.push (zlO a)).push (zlO b)).push {cls:=.type "tuple",data:=.seq #[.ref h.objs.size,.ref (h.objs.size+1)]}).push {cls:=.type "tuple",data:=.seq #[.none,.none]}).push {cls:=.type "zip",data:=.fields #[.none,.bool false,.bool false,.ref (h.objs.size+2),.ref (h.objs.size+3)]}
theorem jp9(h:Heap)(a b:Addr):ZML h (zlH h a b) a b:=by
 have P:∀(k:Heap)(o:Obj){c:Addr}{u:Obj},k.get? c=some u->(k.push o).get? c=some u:=λk o {c u} e=>Ac o e
 have t1:(h.push (zlO a)).objs.size=h.objs.size+1:=by rw[Az]
 have t2:((h.push (zlO a)).push (zlO b)).objs.size=h.objs.size+2:=by rw[Az,t1]
 have t3:(((h.push (zlO a)).push (zlO b)).push {cls:=.type "tuple",data:=.seq #[.ref h.objs.size,.ref (h.objs.size+1)]}).objs.size=h.objs.size+3:=by rw[Az,t2]
 have t4:((((h.push (zlO a)).push (zlO b)).push {cls:=.type "tuple",data:=.seq #[.ref h.objs.size,.ref (h.objs.size+1)]}).push {cls:=.type "tuple",data:=.seq #[.none,.none]}).objs.size=h.objs.size+4:=by rw[Az,t3]
 unfold zlH
 refine⟨?_,?_,?_,⟨_,P _ _ (P _ _ (P _ _ (P _ _ (Ai _ rfl)))),rfl,rfl⟩,⟨zlO b,?_,rfl,rfl⟩,λc o e=>P _ _ (P _ _ (P _ _ (P _ _ (P _ _ e))))⟩
 ·rw[<-t4];exact Ai _ rfl
 ·rw[<-t2];exact P _ _ (P _ _ (Ai _ rfl))
 ·rw[<-t3];exact P _ _ (Ai _ rfl)
 ·rw[<-t1];exact P _ _ (P _ _ (P _ _ (Ai _ rfl)))
theorem jjt(a b:Addr)(va vb:Array Value) :
  Meets (Builtin.«zip.__new__» ⟨[.type "zip",.ref a,.ref b],[]⟩) (λ_ R s=>s.heap.IsList a va/\s.heap.IsList b vb/\R (.ok (.ret (.ref (s.heap.objs.size+4)))) {s with heap:=zlH s.heap a b}) :=
 .of_wp λprog w A R s h=>by
  obtain⟨hp,g,d,tk,os⟩:=s
  obtain⟨ha,hb,h⟩:=h
  have hsub:=sub_zip
  have hb':(Heap.push hp (zlO a)).IsList b vb:=hb.push _
  have t1:(hp.push (zlO a)).objs.size=hp.objs.size+1:=by rw[Az]
  have t2:((hp.push (zlO a)).push (zlO b)).objs.size=hp.objs.size+2:=by rw[Az,t1]
  wp_walk using O3 ha,O3 hb'
  refine⟨_,rfl,?_⟩
  simp only[Az]
  exact h
theorem call_zipLL{prog:Program}{w:World}{A:Around}{E:Value->Shared->Prop}{s:Shared}{a b:Addr}{va vb:Array Value}{Q:Value->Shared->Prop}(ha:s.heap.IsList a va)(hb:s.heap.IsList b vb)
  (q:∀h',ZML s.heap h' a b->Q (.ref (s.heap.objs.size+4)) {s with heap:=h'}):wpAny (model prog w) A (call (.type "zip") [.ref a,.ref b]) Q E s:=by
 refine callType_new PySem.F.called_zip (by decide) (PySem.F.typeCall_zip_2 _ _) (PySem.F.newCall_zip_2 _ _) (λobj=>PySem.F.args_object_init_3 obj _ _) PySem.F.entry_zip_new (jjt a b va vb) ⟨ha,hb,?_⟩
 have m:=jp9 s.heap a b
 exact⟨⟨_,m.z,rfl⟩,q _ m⟩
end
def ItZL(a b:Addr):It:=⟨λi H=>∃xs ys x y,H a=some (.lst xs)/\H b=some (.lst ys)/\xs[i]?=some x/\ys[i]?=some y,
 λi H v H'=>∃T x y,H T=none/\v=.ref T/\(∀xs,H a=some (.lst xs)->xs[i]?=some x)/\(∀ys,H b=some (.lst ys)->ys[i]?=some y)/\H'=upd H T (.tup [x,y]),λi H=>∃xs ys,H a=some (.lst xs)/\H b=some (.lst ys)/\i=min xs.length ys.length⟩
section
variable{P:Program}{w:World}{K:PySem.W.Frag}
def ZTL(a b z TI TO i1 i2:Addr)(i:Nat)(h:Heap):Prop:=IsZip h z TI TO .none/\IsPair h TI (.ref i1) (.ref i2)/\(∃x y,IsPair h TO x y)/\h.IsListIter i1 a i/\h.IsListIter i2 b i
theorem ZTL.tys{a b z TI TO i1 i2:Addr}{i:Nat}{h:Heap}(t:ZTL a b z TI TO i1 i2 i h):∀c∈[z,TI,TO,i1,i2],∃o,h.get? c=some o/\(∀v,o.data≠.cell v):=by
 obtain⟨e0,e1,⟨x,y,e2⟩,⟨o3,e3,_,d3⟩,⟨o4,e4,_,d4⟩⟩:=t
 intro c hc
 simp only[Ar,Ae,Yh]at hc
 rcases hc with rfl|rfl|rfl|rfl|rfl
 ·exact⟨_,e0,λv q=>by cases q⟩
 ·exact⟨_,e1,λv q=>by cases q⟩
 ·exact⟨_,e2,λv q=>by cases q⟩
 ·exact⟨_,e3,λv q=>by rw[d3]at q;cases q⟩
 ·exact⟨_,e4,λv q=>by rw[d4]at q;cases q⟩
theorem je1{z TI TO i1 i2 a b:Addr}(D:ZA z TI TO i1 i2 [i1] [i2])(na:∀d∈[z,TI,TO,i1,i2],d≠a)(nb:∀d∈[z,TI,TO,i1,i2],d≠b):ZA z TI TO i1 i2 [i1,a] [i2,b] :=
 ⟨D.TIz,D.TOz,D.i1z,D.i2z,D.TITO,D.TIi1,D.TIi2,D.TOi1,D.TOi2,D.i12,by simpa using⟨D.i1z.symm,na z (by simp)⟩,by simpa using⟨D.i2z.symm,nb z (by simp)⟩,
  by simpa using⟨D.TOi1,na TO (by simp)⟩,by simpa using⟨D.TOi2,nb TO (by simp)⟩,by simpa using⟨D.i12,nb i1 (by simp)⟩,by simpa using⟨D.i12.symm,na i2 (by simp)⟩⟩
theorem jlx{elts:List Expr}{kk:Nat}{pos:Pos}(a b z TI TO i1 i2:Addr)(D:ZA z TI TO i1 i2 [i1] [i2]):Turn P w K (.Tuple elts kk pos) (ItZL a b) [z,TI,TO,i1,i2] z (ZTL a b z TI TO i1 i2) where
 mem:=by simp
 obj:=λi h st c hc=>st.tys c hc
 keep:=λi h h' st k=>by
  obtain⟨e0,e1,⟨x,y,e2⟩,⟨o3,e3,r3⟩,⟨o4,e4,r4⟩⟩:=st
  exact⟨k z (by simp) _ e0,k TI (by simp) _ e1,⟨x,y,k TO (by simp) _ e2⟩,⟨o3,k i1 (by simp) _ e3,r3⟩,⟨o4,k i2 (by simp) _ e4,r4⟩⟩
 item:=by
  intro X hP hw hK hc i pins s σ H E I hf st hg
  subst hP hw hK
  obtain⟨xs,ys,x',y',hx,hy,gx,gy⟩:=hg
  obtain⟨va,ra,pa,_⟩:=I.list (SqL.of hx)
  obtain⟨vb,rb,pb,_⟩:=I.list (SqL.of hy)
  obtain⟨u,hu,ru⟩:=ra.get gx
  obtain⟨v,hv,rv⟩:=rb.get gy
  have nin:∀c ys,H c=some (.lst ys)->∀d∈[z,TI,TO,i1,i2],d≠c:=λc ys q d hd e=>by
   rw[<-e,(hf d hd).1]at q;cases q
  have h0:X.A.in1.handled=none:=I.ok.hd hc
  have W:=jdn (A:=X.A) (Yv (prog:=X.prog) (w:=X.w) h0 i1 a (nin a xs hx i1 (by simp)).symm va.toArray) (Yv (prog:=X.prog) (w:=X.w) h0 i2 b (nin b ys hy i2 (by simp)).symm vb.toArray) (je1 D (nin a xs hx) (nin b ys hy))
  have la:i<va.toArray.size:=by rw[Aj];exact(Ag.mp hu).1
  have lb:i<vb.toArray.size:=by rw[Aj];exact(Ag.mp hv).1
  refine W.item i s _ _ (by omega) ⟨st.1,st.2.1,st.2.2.1,⟨st.2.2.2.1,pa.isList⟩,⟨st.2.2.2.2,pb.isList⟩⟩ λT vs h' tk hp hT htup mid kk'=>⟨_,rfl,?_⟩
  have nT:=W.apart _ _ _ mid
  refine W.go _ _ _ i T {s with heap:=h',toks:=tk} _ _ mid λh'' st'' k''=>?_
  have tup':IsTup h'' T vs:=let⟨o,eo,r⟩:=htup;⟨o,k'' T o nT eo,r⟩
  have hv':Vals [x',y'] vs.toList:=by
   obtain⟨x1,y1,p1,p2,rfl⟩:=hp
   rw[show va.toArray[i]?=some u from by simpa using hu]at p1
   rw[show vb.toArray[i]?=some v from by simpa using hv]at p2
   cases p1
   cases p2
   exact .cons ru (.cons rv .nil)
  have Z':ZTL a b z TI TO i1 i2 (i+1) h'':=⟨st''.1,st''.2.1,st''.2.2.1,st''.2.2.2.1.1,st''.2.2.2.2.1⟩
  refine⟨.ref T,upd H T (.tup [x',y']),?_,rfl,⟨T,x',y',I.hok.fresh hT,rfl,λzs q=>by rw[hx]at q;cases q;exact gx,λzs q=>by rw[hy]at q;cases q;exact gy,rfl⟩,Z',λc hb=>?_⟩
  ·refine I.turnedNew (fp:=[z,TI,TO,i1,i2]) (wr:=[z,TO,i1,i2]) (λc hb=>hf c (by simp at hb⊢;rcases hb with r|r|r|r <;> simp[r])) (λc o hb eo=>k'' c o hb (kk' c o hb eo)) hT (by simpa using tup') hv' (by show 2<=sizeLine;decide) λc hb=>?_
   obtain⟨o,eo,_⟩:=Z'.tys c (by simp at hb⊢;rcases hb with r|r|r|r <;> simp[r])
   exact⟨o,eo⟩
  ·obtain⟨o,eo,_⟩:=st.tys c hb
   rw[jd (Ao (A0 (Al eo) hT))]
   exact(hf c hb).1
 done:=by
  intro X hP hw hK hc i pins s σ H E I hf st hg
  subst hP hw hK
  obtain⟨xs,ys,hx,hy,hi⟩:=hg
  obtain⟨va,ra,pa,_⟩:=I.list (SqL.of hx)
  obtain⟨vb,rb,pb,_⟩:=I.list (SqL.of hy)
  have nin:∀c ys,H c=some (.lst ys)->∀d∈[z,TI,TO,i1,i2],d≠c:=λc ys q d hd e=>by
   rw[<-e,(hf d hd).1]at q;cases q
  have h0:X.A.in1.handled=none:=I.ok.hd hc
  have W:=jdn (A:=X.A) (Yv (prog:=X.prog) (w:=X.w) h0 i1 a (nin a xs hx i1 (by simp)).symm va.toArray) (Yv (prog:=X.prog) (w:=X.w) h0 i2 b (nin b ys hy i2 (by simp)).symm vb.toArray) (je1 D (nin a xs hx) (nin b ys hy))
  have hn:min va.toArray.size vb.toArray.size=i:=by rw[Aj,Aj,<-ra.length,<-rb.length];exact hi.symm
  refine W.done s _ _ (by rw[hn];exact⟨st.1,st.2.1,st.2.2.1,⟨st.2.2.2.1,pa.isList⟩,⟨st.2.2.2.2,pb.isList⟩⟩) λh' tk kk'=>⟨rfl,?_⟩
  have hf':∀c∈[z,TO,i1,i2],FpOk X pins H c:=λc hb=>hf c (by simp at hb⊢;rcases hb with r|r|r|r <;> simp[r])
  exact I.walked hf' kk'
 self:=λA i s Q E st q=>Wn st.1 q
end
theorem jo1{a b:Addr}{xs ys:List V}{g:TG}{tb:TS}{D:Ends}{σ:L2.St}{H:Hp}(Pv:Nat->L2.St->Hp->Prop)(h0:Pv 0 σ H)(hl:ys.length=xs.length)(ha:∀i σ H,i<=xs.length->Pv i σ H->H a=some (.lst xs)/\H b=some (.lst ys))
  (hs:∀i x y σ H T,xs[i]?=some x->ys[i]?=some y->Pv i σ H->H T=none->g (.ref T) σ (upd H T (.tup [x,y])) λσ2 H2=>tb {D with nx:=Pv (i+1),ct:=Pv (i+1),bk:=D.nx} σ2 H2) (hd:∀σ H,Pv xs.length σ H->D.nx σ H):jcn (ItZL a b) g tb D σ H:=by
 refine⟨λi m σ H=>m+i=xs.length/\Pv i σ H,⟨xs.length,rfl,h0⟩,?_⟩
 rintro i m σ H ⟨hm,p⟩
 obtain⟨e1,e2⟩:=ha i σ H (by omega) p
 by_cases hi:i<xs.length
 ·refine .inr ⟨⟨xs,ys,xs[i],ys[i],e1,e2,by simp[hi],by simp[hl,hi]⟩,Pv (i+1),λσ' H' p'=>⟨m-1,by omega,by omega,p'⟩,λv H' q=>?_⟩
  obtain⟨T,x,y,hT,rfl,q1,q2,rfl⟩:=q
  exact hs i x y σ H T (q1 xs e1) (q2 ys e2) p hT
 ·have e:i=xs.length:=by omega
  subst e
  exact .inl ⟨⟨xs,ys,e1,e2,by omega⟩,hd σ H p⟩
section
variable{X:Cx}
def jk5(ta:TA):TI:=λσ H R=>ta σ H λvs H1=>∃a b xs ys,vs=[.ref a,.ref b]/\H1 a=some (.lst xs)/\H1 b=some (.lst ys)/\R (ItZL a b) H1
theorem jby{a b:Expr}{ta:TA}{p pos tpos:Pos}{elts:List Expr}{kk:Nat}(hg:Gl X "zip")(hm:X.mg "zip"=none)(ha:QA X [a,b] ta)(hs:starEach [a,b] X.env=[(false,eval a X.env),(false,eval b X.env)]:=by rfl)(hs2:starEach [b] X.env=[(false,eval b X.env)]:=by rfl) :
  QI X (.Tuple elts kk tpos) (.Call (.Name "zip" p) [a,b] [] pos) (jk5 ta):=by
 refine⟨λpins s σ H R I h=>?_⟩
 refine Call_ (jdj I hg hm jcd (Uf (thn (ha.h pos pins s σ H _ I h) λus s1 ⟨vs,H1,I1,r1,q1⟩=>?_) (by rw[hs,hs2]) (by rw[hs2];rfl)))
 obtain⟨c,d,xs,ys,rfl,ec,ed,q⟩:=q1
 obtain⟨u1,u2,rfl,ru,rv⟩:=jia r1
 cases ru
 cases rv
 obtain⟨va,ra,pa,_⟩:=I1.list (SqL.of ec)
 obtain⟨vb,rb,pb,_⟩:=I1.list (SqL.of ed)
 refine call_zipLL pa.isList pb.isList λh' M=>?_
 have I2:Inv X pins σ H1 {s1 with heap:=h'}:=I1.kept (t':=s1.toks) M.old
 have D:ZA (s1.heap.objs.size+4) (s1.heap.objs.size+2) (s1.heap.objs.size+3) s1.heap.objs.size (s1.heap.objs.size+1) [s1.heap.objs.size] [s1.heap.objs.size+1]:=by
  constructor <;> simp <;> omega
 refine Wn M.z ⟨s1.heap.objs.size+4,_,_,_,H1,rfl,I2,jlx c d _ _ _ _ _ D,⟨M.z,M.ti,⟨_,_,M.to⟩,M.i1,M.i2⟩,λb hb=>?_,q⟩
 have hb':s1.heap.objs.size<=b:=by
  simp only[Ar,Ae,Yh]at hb
  rcases hb with rfl|rfl|rfl|rfl|rfl <;> first|exact Af _|exact Nat.le_add_right _ _
 exact I1.fpOk (H':=H1) hb' (I1.hok.fresh hb')
theorem jak{o i:Expr}{td ty:TE}{pos:Pos}(hu:X.A.units+1<cLine)(ho:QE X o td)(hi:QE X i ty)(hs:NoSl i):QE X (.Subscript o i pos) (jh2 td ty):=⟨pe_dget hu ho.h hi.h hs⟩
end
theorem jga:∀(names:List (Str×NameKind))(h:Heap)(acc:List (Str×Addr))(x:Str)(c:Addr),(cellsFrom h.objs.size names acc).lookup x=some c ->
  acc.lookup x=some c\/((pushCells h names).IsCell c none/\h.objs.size<=c/\(x,NameKind.cell)∈names)
 |[],h,acc,x,c,e=>.inl e
 |(n,k)::r,h,acc,x,c,e=>by
  unfold cellsFrom at e
  unfold pushCells
  by_cases hk:(k == NameKind.cell)=true
  ·rw[Ap hk]at e⊢
   have hk':k=.cell:=by simpa using hk
   have hsz:(h.push {cls:=.type "cell",data:=.cell none}).objs.size=h.objs.size+1:=Az ..
   rw[<-hsz]at e
   rcases jga r _ _ x c e with q|⟨q1,q2,q3⟩
   ·rw[List.lookup_cons]at q
    cases hx:x == n with
    |true =>
     rw[hx]at q
     have ex:x=n:=by simpa using hx
     cases Av q
     refine .inr ⟨⟨_,Yw _ _ _ _ (Ai _ rfl),rfl⟩,Af _,?_⟩
     rw[ex,hk']
     exact Oa ..
    |false=>rw[hx]at q;exact .inl q
   ·exact .inr ⟨q1,by omega,Im _ q3⟩
  ·rw[At hk]at e⊢
   rcases jga r h acc x c e with q|⟨q1,q2,q3⟩
   ·exact .inl q
   ·exact .inr ⟨q1,q2,Im _ q3⟩
theorem jep:∀(names:List (Str×NameKind))(n:Nat)(acc:List (Str×Addr))(x:Str),((x,NameKind.cell)∈names\/∃c,acc.lookup x=some c)->∃c,(cellsFrom n names acc).lookup x=some c
 |[],n,acc,x,h=>h.elim (λq=>nomatch q) id
 |(m,k)::r,n,acc,x,h=>by
  unfold cellsFrom
  by_cases hk:(k == NameKind.cell)=true
  ·rw[Ap hk]
   refine jep r _ _ x ?_
   by_cases hx:x=m
   ·subst hx
    exact .inr ⟨n,by simp[List.lookup_cons]⟩
   ·rcases h with h|⟨c,h⟩
    ·rcases Ar.mp h with h|h
     ·exact absurd (Ob Prod.fst h) hx
     ·exact .inl h
    ·refine .inr ⟨c,?_⟩
     rw[List.lookup_cons,show(x == m)=false by simpa using hx]
     exact h
  ·rw[At hk]
   refine jep r n acc x ?_
   rcases h with h|h
   ·rcases Ar.mp h with h|h
    ·have:NameKind.cell=k:=Ob Prod.snd h
     rw[<-this]at hk
     exact absurd rfl hk
    ·exact .inl h
   ·exact .inr h
theorem je8:∀(names:List (Str×NameKind))(lo n:Nat)(acc:List (Str×Addr))(x:Str)(c:Addr),lo<=n->((x,NameKind.cell)∈names\/∀c0,acc.lookup x=some c0->lo<=c0)->(cellsFrom n names acc).lookup x=some c->lo<=c
 |[],lo,n,acc,x,c,_,h,e=>h.elim (λq=>nomatch q) λq=>q c e
 |(m,k)::r,lo,n,acc,x,c,hl,h,e=>by
  unfold cellsFrom at e
  by_cases hk:(k == NameKind.cell)=true
  ·rw[Ap hk]at e
   refine je8 r lo (n+1) _ x c (by omega) ?_ e
   by_cases hx:x=m
   ·subst hx
    refine .inr λc0 q=>?_
    simp[List.lookup_cons]at q
    rw[<-q]
    exact hl
   ·rcases h with h|h
    ·rcases Ar.mp h with h|h
     ·exact absurd (Ob Prod.fst h) hx
     ·exact .inl h
    ·refine .inr λc0 q=>h c0 ?_
     rw[List.lookup_cons,show(x == m)=false by simpa using hx]at q
     exact q
  ·rw[At hk]at e
   refine je8 r lo n acc x c hl ?_ e
   rcases h with h|h
   ·rcases Ar.mp h with h|h
    ·have:NameKind.cell=k:=Ob Prod.snd h
     rw[<-this]at hk
     exact absurd rfl hk
    ·exact .inl h
   ·exact .inr h
theorem jic:∀(names:List (Str×NameKind))(n:Nat)(acc:List (Str×Addr)),(∀x c,acc.lookup x=some c->c<n)->(∀x y c,acc.lookup x=some c->acc.lookup y=some c->x=y) ->
  ∀x y c,(cellsFrom n names acc).lookup x=some c->(cellsFrom n names acc).lookup y=some c->x=y
 |[],_,_,_,hi=>hi
 |(m,k)::r,n,acc,hlt,hi=>by
  unfold cellsFrom
  by_cases hk:(k == NameKind.cell)=true
  ·rw[Ap hk]
   refine jic r (n+1) _ (λx c e=>?_) λx y c e1 e2=>?_
   ·rw[List.lookup_cons]at e
    cases hx:x == m with
    |true=>rw[hx]at e;cases Av e;exact Og _
    |false=>rw[hx]at e;exact O4 (hlt x c e)
   ·rw[List.lookup_cons]at e1 e2
    cases hx:x == m with
    |true =>
     rw[hx]at e1
     cases Av e1
     cases hy:y == m with
     |true=>rw[show x=m by simpa using hx,show y=m by simpa using hy]
     |false=>rw[hy]at e2;exact absurd (hlt y _ e2) (O8 _)
    |false =>
     rw[hx]at e1
     cases hy:y == m with
     |true=>rw[hy]at e2;cases Av e2;exact absurd (hlt x _ e1) (O8 _)
     |false=>rw[hy]at e2;exact hi x y c e1 e2
  ·rw[At hk]
   exact jic r n acc hlt hi
theorem jmq{M:Model}{A:Around}{E:Value->Shared->Prop}{s:Shared}{scope:Scope}{globals:Addr}{cl:List (Str×Addr)}{qual:Str}{env:Env}{Q:Env->Shared->Prop}
  (h:Q (newEnv scope s.heap.objs.size globals (cellsFrom (s.heap.objs.size+1) scope.names cl) qual none .none (some env) builtinsNs) {s with heap:=pushCells (s.heap.push {cls:=.type "dict",data:=.dict #[]}) scope.names}) :
  wpAny M A (newFunctionEnv scope globals cl [] qual none .none (some env)) Q E s:=by
 unfold newFunctionEnv
 refine Aa (wpAny_alloc ?_)
 refine Aa (wpAny_layCells _ (λname kind cells=>by cases hkc:kind == NameKind.cell <;> simp[hkc]) _ _ _ _ ?_)
 rw[show({s with heap:=s.heap.push {cls:=.type (if(some env).isSome then"dict"else"frame"),data:=.dict #[]}}:Shared).heap.objs.size=s.heap.objs.size+1 from Az ..]
 refine Aa ?_
 rw[List.forIn_nil]
 exact Ab (Ab h)
abbrev Cx.compC(X:Cx)(scope:Scope)(C:Addr)(Nc:List Str)(s3:Shared)(H3:Hp)(fp:List Addr):Cx :=
 {X with N:=Nc,s₀:=s3,H₀:=H3,env:=compEnvC scope (cellsFrom (C+1) scope.names (clOf X.env scope.names [])) C X.env,outer:=X.stack,stack:=X.stack,ex:=fp,fn:=λx=>scope.names.lookup x == some .cell,pn:=[],xe:=λ_ _=>False}
structure CompOkC(X:Cx)(scope:Scope)(Nc:List Str)(js:List (Option Nat)):Prop where
 kind:scope.kind=.function
 loc:∀y∈scope.names,y.2=.local->scope.names.lookup y.1=some .local
 free:∀y∈scope.names,y.2=.free->X.env.kindOf y.1=some .cell\/X.env.kindOf y.1=some .free
 len:js.length=Nc.length
 nol:∀x,(x,NameKind.free)∈scope.names->scope.names.lookup x≠some .local
 see:∀(i j:Nat)(x:Str),js[i]?=some (some j)->Nc[i]?=some x->X.N[j]?=some x/\(x,NameKind.free)∈scope.names
 noc:∀x,(x,NameKind.free)∈scope.names->(x,NameKind.cell)∉scope.names
section
variable{X:Cx}{pins:List (Addr×Obj)}{σ:L2.St}{H:Hp}{s:Shared}{scope:Scope}{Nc:List Str}{js:List (Option Nat)}{fp:List Addr}
theorem CompOkC.has(c:CompOkC X scope Nc js)(I:Inv X pins σ H s):∀y∈scope.names,y.2=.free->∃a,X.env.cells.lookup y.1=some a:=λy hy hf=>I.ok.has _ (c.free y hy hf)
theorem jec{env:Env}{x:Str}:∀{l:List (Str×NameKind)},
  ((l.map fun(n,k)=>if(k == NameKind.free && env.scope.kind == .function && env.kindOf n == some .cell)then(n,NameKind.cell)else(n,k)).lookup x=some .cell \/
   (l.map fun(n,k)=>if(k == NameKind.free && env.scope.kind == .function && env.kindOf n == some .cell)then(n,NameKind.cell)else(n,k)).lookup x=some .free)->(x,NameKind.free)∈l\/(x,NameKind.cell)∈l
 |[],h=>by simp at h
 |(n,k)::r,h=>by
  rw[A9]at h
  by_cases hx:x=n
  ·subst hx
   by_cases hcond:(k == NameKind.free && env.scope.kind == .function && env.kindOf x == some .cell)=true
   ·rw[Iz,Iz]at hcond
    have hk:k=.free:=by simpa using hcond.1.1
    subst hk
    exact .inl (Oa ..)
   ·simp only[hcond,Iw,O6,List.lookup_cons,Wa]at h
    rcases h with h|h
    ·cases Av h
     exact .inr (Oa ..)
    ·cases Av h
     exact .inl (Oa ..)
  ·have hxn:(x == n)=false:=by simpa using hx
   have ih:(x,NameKind.free)∈r\/(x,NameKind.cell)∈r:=by
    refine jec (env:=env) ?_
    by_cases hcond:(k == NameKind.free && env.scope.kind == .function && env.kindOf n == some .cell)=true
    ·simpa only[hcond,Uj,List.lookup_cons,hxn]using h
    ·simpa only[hcond,Iw,O6,List.lookup_cons,hxn]using h
   exact ih.imp (Im _) (Im _)
theorem CompOkC.sub(c:CompOkC X scope Nc js)(I:Inv X pins σ H s)(x:Str)(a:Addr)(e:(cellsFrom (s.heap.objs.size+1) scope.names (clOf X.env scope.names [])).lookup x=some a) :
  (X.env.cells.lookup x=some a/\a<s.heap.objs.size)\/((pushCells (s.heap.push {cls:=.type "dict",data:=.dict #[]}) scope.names).IsCell a none/\s.heap.objs.size+1<=a/\(x,NameKind.cell)∈scope.names):=by
 have hsz:(s.heap.push {cls:=.type "dict",data:=.dict #[]}).objs.size=s.heap.objs.size+1:=Az ..
 rw[<-hsz]at e⊢
 rcases jga _ _ _ x a e with q|q
 ·have q':=jdq scope.names [] x a (c.has I) (λ_ _ z=>by simp at z) q
  obtain⟨v,hc⟩:=I.cell x a q'
  exact .inl ⟨q',hc.lt⟩
 ·exact .inr q
theorem jnh(c:CompOkC X scope Nc js)(I:Inv X pins σ H s)(hf:∀b∈fp,FpOk X pins H b)(ho:∀b∈fp,∃o,s.heap.get? b=some o):(X.compC scope s.heap.objs.size Nc s H fp).Ok:=by
 have hs:=c.has I
 have sub0:∀x a,(clOf X.env scope.names []).lookup x=some a->X.env.cells.lookup x=some a:=λx a=>jdq _ _ x a hs (λ_ _ z=>nomatch z)
 refine⟨I.ok.mod,c.kind,I.ok.glob,I.ok.blt,Af _,?_,λx h=>?_,λx a h e=>?_,I.ok.hd,I.ok.frames,.inl rfl,λb hb=>⟨?_,λx a e=>?_⟩,I.bs,
  Io I.ok.bsz I.sz,λb o e hb=>?_,λb hb hb'=>?_,I.stack,I.stkFree⟩
 ·refine jic _ _ _ (λx a e=>?_) λx y a e1 e2=>I.ok.inj x y a (sub0 x a e1) (sub0 y a e2)
  obtain⟨v,hc⟩:=I.cell x a (sub0 x a e)
  exact O4 hc.lt
 ·refine jep _ _ _ x ?_
  rcases jec (env:=X.env) h with q|q
  ·exact .inr (jdp _ _ x q)
  ·exact .inl q
 ·have hm:(x,NameKind.cell)∈scope.names:=mem_of_lookup (by simpa using h)
  exact Nat.le_of_succ_le (je8 _ (s.heap.objs.size+1) _ _ x a (Af _) (.inl hm) e)
 ·obtain⟨o,e⟩:=ho b hb
  exact Ao (Al e)
 ·rcases c.sub I x a e with⟨q,_⟩|⟨_,q,_⟩
  ·exact(hf b hb).2.2.2.2.1 x a q
  ·obtain⟨o,e'⟩:=ho b hb
   have:=Al e'
   exact λz=>absurd (A0 (A0 this (Wq _)) q) (by rw[z];exact O8 _)
 ·rcases(hf b hb).2.2.2.1 with z|z
  ·exact I.ok.noex b o e z
  ·exact absurd (A0 (Al (I.ok.bs b o e).1) z) (O8 _)
 ·rcases Ar.mp (I.stkSub b hb')with z|z
  ·exact(hf b hb).2.1 z
  ·exact(hf b hb).2.2.1 z
theorem jl4(c:CompOkC X scope Nc js)(I:Inv X pins σ H s)(hf:∀b∈fp,FpOk X pins H b)(ho:∀b∈fp,∃o,s.heap.get? b=some o) :
  Inv (X.compC scope s.heap.objs.size Nc s H fp) [] (jcw js σ) H {s with heap:=pushCells (s.heap.push {cls:=.type "dict",data:=.dict #[]}) scope.names}:=by
 have hk:∀b o,s.heap.get? b=some o->(pushCells (s.heap.push {cls:=.type "dict",data:=.dict #[]}) scope.names).get? b=some o:=λb o e=>Yw _ _ b o (Ac _ e)
 have hn:=(Heap.Ns.new s.heap (.type "dict")).keeps (Yw scope.names _)
 have hs:=c.has I
 refine⟨jnh c I hf ho,rfl,I.bare,Un.kept hk,⟨_,hn,λi x v e1 e2 e3=>?_⟩,λx a e=>?_,I.hok.fresh (Af _),λx a e=>?_,(λp hp=>nomatch hp),I.hok.kept hk,by simp only[jcw,Ad];exact c.len⟩
 ·have e2':(jcw js σ)[i]?=some (some v):=e2
  unfold jcw at e2'
  rw[Ax]at e2'
  cases ej:js[i]? with
  |none=>rw[ej]at e2';cases e2'
  |some o =>
   rw[ej]at e2'
   cases o with
   |none=>cases e2'
   |some j =>
    have e4:(σ[j]?).getD none=some v:=Av e2'
    have e5:σ[j]?=some (some v):=by
     cases q:σ[j]? with
     |none=>rw[q]at e4;cases e4
     |some w=>rw[q]at e4;exact Ob some e4
    obtain⟨n1,n2⟩:=c.see i j x ej e1
    have hkd:=c.free _ n2 rfl
    obtain⟨a,ha⟩:=jep scope.names (s.heap.objs.size+1) _ x (.inr (jdp (env:=X.env) scope.names [] x n2))
    have hax:X.env.cells.lookup x=some a:=by
     rcases c.sub I x a ha with⟨q,_⟩|⟨_,_,q⟩
     ·exact q
     ·exact absurd q (c.noc x n2)
    obtain⟨m0,_,hl⟩:=I.loc
    obtain⟨u,r,l⟩:=hl j x v n1 e5 (by
     rcases hkd with z|z
     ·exact .inr (.inl z)
     ·exact .inr (.inr z))
    refine⟨u,r,?_⟩
    rcases l with⟨k,_⟩|⟨_,a',ha',hcell⟩
    ·rcases hkd with z|z
     ·rw[z]at k;cases k
     ·rw[z]at k;cases k
    ·have:a'=a:=Av (ha'.symm.trans hax)
     subst this
     refine .inr ⟨?_,a',ha,?_⟩
     ·rcases e3 with z|z|z
      ·exfalso
       have q:(relabel scope X.env).names.lookup x=some .local:=z
       exact c.nol x n2 (jdz q)
      ·exact .inl z
      ·exact .inr z
     ·obtain⟨o,q,d⟩:=hcell
      exact⟨o,hk _ o q,d⟩
 ·rcases c.sub I x a e with⟨q,_⟩|⟨q,_,_⟩
  ·obtain⟨v,o,q,d⟩:=I.cell x a q
   exact⟨v,o,hk _ o q,d⟩
  ·exact⟨none,q⟩
 ·rcases c.sub I x a e with⟨q,_⟩|⟨_,q,_⟩
  ·exact I.freeC x a q
  ·exact I.hok.fresh (Nat.le_of_succ_le q)
theorem jjr(I:Inv X pins σ H s)(hf:∀b∈fp,FpOk X pins H b){σ':L2.St}{H':Hp}{s':Shared}{h'':Heap}(J:Inv (X.compC scope s.heap.objs.size Nc s H fp) [] σ' H' s')(hs:Heap.SameBut s.heap.objs.size s'.heap h'') :
  Inv X pins σ H' {s' with heap:=h''}:=by
 have ne:∀b o,s.heap.get? b=some o->b≠s.heap.objs.size:=λb o e=>Ao (Al e)
 have u:Un (frs X.stack) fp H H' s.heap s'.heap:=J.base
 refine I.call' (s':={s' with heap:=h''}) (ch:=fp) J.os ⟨λb o e n hb hx=>?_,λb o e n hb hx=>?_,u.free,λb o e hx=>?_,u.tups,u.frzs,u.tbls⟩ (λb o e=>?_) J.bare λb hb=>?_
 ·exact(hs.2 b (ne b o e)).trans (u.keep b o e n hb hx)
 ·obtain⟨sl,q⟩:=u.slot b o e n hb hx
  exact⟨sl,(hs.2 b (ne b o e)).trans q⟩
 ·obtain⟨o',q⟩:=u.there b o e hx
  exact⟨o',(hs.2 b (ne b o e)).trans q⟩
 ·have hC:H' s.heap.objs.size=none:=J.free
  refine(J.hok b o e).stay (λd v hd q=>(hs.2 d ?_).trans q) (λ_ q=>q) λ_ _ q=>q
  rintro rfl
  rcases hd with z|z
  ·rw[<-z,hC]at e;cases e
  ·rw[hC]at z;cases z
 ·obtain⟨_,f1,_,f3,f4,f5⟩:=hf b hb
  exact⟨f3,f1,f4,f5⟩
end
section
variable{X:Cx}{scope:Scope}{Nc:List Str}{js:List (Option Nat)}{elt tg iter:Expr}{pos:Pos}{wi:TI}{g:TG}{te:TE}
theorem jk1(hc:X.calm=true)(c:CompOkC X scope Nc js)(hi:PI X tg iter wi)(hg:∀C s3 H3 fp,PG (X.compC scope C Nc s3 H3 fp) tg g)(he:∀C s3 H3 fp,PE (X.compC scope C Nc s3 H3 fp) elt te)
  {pins:List (Addr×Obj)}{s:Shared}{σ:L2.St}{H:Hp} (I:Inv X pins σ H s) {RR:Value->Addr->Result->Shared->Prop}{NX:Addr->Hp->Prop}
  (h:wi σ H λJ H1=>∀D,H1 D=none->jcn J g (jc3 D te) {nx:=λ_ H'=>NX D H',rt:=λ_ _=>False} (jcw js σ) (upd H1 D (.lst [])))
  (fin:∀D H3 s3 fp σ5 H5 s6,Inv X pins σ H3 s3->(∀b∈fp,FpOk X pins H3 b)->Inv (X.compC scope s3.heap.objs.size Nc s3 H3 fp) [] σ5 H5 s6->NX D H5->RR (.ref D) s3.heap.objs.size (.ok .next) s6) :
  wpAny (model X.prog X.w) X.A (eval iter X.env) (λx s₁=>wpAny (model X.prog X.w) X.A (pyIter x) (λit s₂=>wpAny (model X.prog X.w) X.A (newList []) (λacc s₃ =>
   wpAny (model X.prog X.w) X.A (newFunctionEnv scope X.env.globals (clOf X.env scope.names []) [] X.env.qual none .none (some X.env)) (λcenv s₄ =>
    codeAny (model X.prog X.w) X.A (.compStart (.ListComp elt [⟨tg,iter,[],0⟩] scope pos) 0 it acc {cenv with scope:=relabel scope X.env}) (RR acc cenv.locals) s₄) X.xe s₃) X.xe s₂) X.xe s₁) X.xe s:=by
 refine thn (hi pins s σ H _ I h) λv s1 h1=>thn h1 λitv s2 h2=>?_
 obtain⟨it,fp,tn,J,H2,rfl,I2,T,st2,f2,h2⟩:=h2
 refine Oc ?_ (by show 0<=sizeLine;decide)
 have hD:H2 s2.heap.objs.size=none:=I2.hok.fresh (Af _)
 have I3:Inv X pins σ (upd H2 s2.heap.objs.size (.lst [])) {s2 with heap:=s2.heap.push {cls:=.type "list",data:=.seq ([]:List Value).toArray}} :=
  I2.laid (t':=s2.toks) (λb u e=>Ac _ e) (Af _) ⟨by show 0<=sizeLine;decide,[],0,.nil,Ai _ rfl⟩
 have f3:∀b∈fp,FpOk X pins (upd H2 s2.heap.objs.size (.lst [])) b:=λb hb=>by
  obtain⟨q0,q⟩:=f2 b hb
  obtain⟨o,e,_⟩:=T.obj _ _ st2 b hb
  exact⟨by rw[jd (Ao (Al e))];exact q0,q⟩
 have o3:∀b∈fp,∃o,(s2.heap.push {cls:=.type "list",data:=.seq ([]:List Value).toArray}).get? b=some o:=λb hb=>by
  obtain⟨o,e,_⟩:=T.obj _ _ st2 b hb
  exact⟨o,Ac _ e⟩
 have st3:tn 0 (s2.heap.push {cls:=.type "list",data:=.seq ([]:List Value).toArray}):=T.keep _ _ _ st2 λb _ o e=>Ac _ e
 generalize hh3:s2.heap.push {cls:=.type "list",data:=.seq ([]:List Value).toArray}=h3 at I3 o3 st3⊢
 refine jmq ?_
 have k4:∀b o,h3.get? b=some o->(pushCells (h3.push {cls:=.type "dict",data:=.dict #[]}) scope.names).get? b=some o:=λb o e=>Yw _ _ b o (Ac _ e)
 have I4:=jl4 c I3 f3 o3
 generalize hh4:pushCells (h3.push {cls:=.type "dict",data:=.dict #[]}) scope.names=h4 at I4 k4
 have st4:tn 0 h4:=T.keep _ _ _ st3 λb _ o e=>k4 b o e
 obtain⟨W,⟨m0,w0⟩,turn⟩:=h2 _ hD
 let s3:Shared:={s2 with heap:=h3}
 let Y:Cx:=X.compC scope h3.objs.size Nc s3 (upd H2 s2.heap.objs.size (.lst [])) fp
 have stat:∀{H':Hp},(∀b∈fp,H' b=none)->∀b∈fp,FpOk Y [] H' b:=λhn b hb=>⟨hn b hb,(I4.ok.exf b hb).1,I4.ok.exfs b hb,.inl hb,(I4.ok.exf b hb).2,(λp hp=>nomatch hp)⟩
 have loop:codeAny (model X.prog X.w) X.A (.compLoop (.ListComp elt [⟨tg,iter,[],0⟩] scope pos) 0 (.ref it) (.ref s2.heap.objs.size) Y.env)
   (RR (.ref s2.heap.objs.size) h3.objs.size) {s2 with heap:=h4}:=by
  refine codeAny_loop rfl (λn s'=>∃i σ' H',Inv Y [] σ' H' s'/\tn i s'.heap/\(∀b∈fp,H' b=none)/\W i n σ' H') (λn s5 hI=>?_) m0 ⟨0,_,_,I4,st4,λb hb=>(f3 b hb).1,w0⟩
  obtain⟨i,σ5,H5,I5,st5,fr5,w5⟩:=hI
  show wpAny _ X.A ((compTurn (.ListComp elt [⟨tg,iter,[],0⟩] scope pos) 0 (.ref it) (.ref s2.heap.objs.size) Y.env).onRaise (λx=>do noteFrame x Y.env;theTreesLotGoes x)) _ _ s5
  refine wpAny_noted (Ox (E:=λ_ _=>False) ?_ (λ_ _ q=>q) λ_ _ z=>z.elim)
  rw[compTurn_list1]
  refine Aa (Wg (Aa ?_))
  rcases turn i n σ5 H5 w5 with⟨stop,qn⟩|⟨go,N,hN,step⟩
  ·refine thn (T.done Y rfl rfl rfl hc i [] s5 σ5 H5 _ I5 (stat fr5) st5 stop) λr s6 ⟨hr,I6⟩=>?_
   subst hr
   refine Ab ?_
   exact fin _ _ s3 fp σ5 H5 s6 I3 f3 I6 qn
  ·refine thn (T.item Y rfl rfl rfl hc i [] s5 σ5 H5 _ I5 (stat fr5) st5 go) λr s6 ⟨u,hr,h6⟩=>?_
   subst hr
   refine Aa (thn h6 λ_ s7 ⟨x,H7,I7,r7,y7,st7,fr7⟩=>?_)
   have I7':=I7.pinned (stat fr7) (T.obj _ _ st7)
   refine Aa (thn (hg _ _ _ _ _ s7 σ5 H7 x u _ I7' r7 (step x H7 y7)) λ_ s8 ⟨σ8,H8,I8,q8⟩=>?_)
   refine Aa (Aa (thn (he _ _ _ _ _ s8 σ8 H8 _ I8 q8) λv s9 ⟨y,H9,I9,r9,ys,e9,z9,n9⟩=>?_))
   refine Aa (thn (jao (X:=Y) _ s9 σ8 H9 (.ref s2.heap.objs.size) [y] (.ref s2.heap.objs.size) [v] (λw H'=>N σ8 H') I9 rfl (.cons r9 .nil) ⟨_,ys,y,rfl,rfl,jcy e9,z9,n9⟩) λw s10 ⟨_,H10,I10,_,n10⟩=>?_)
   refine Ab (Ab ⟨rfl,?_⟩)
   obtain⟨m',hm,w10⟩:=hN σ8 H10 n10
   refine⟨m',hm,i+1,σ8,H10,I10.unpinned,T.keep _ _ _ st7 λb hb o e=>(I10.pin (b,o) (A2 _ (A2 _ (jc1 hb e)))).1,λb hb=>?_,w10⟩
   obtain⟨o,e,d⟩:=T.obj _ _ st7 b hb
   exact(I10.pin (b,o) (A2 _ (A2 _ (jc1 hb e)))).2.1
 exact Yb loop (T.self _ 0 _ _ _ st4 loop)
theorem ps_setcC{i:Nat}{y:Str}{py spos:Pos}(hN:X.N.Nodup)(hiN:X.N[i]?=some y)(hy:Loc X.env.scope y)(hc:X.calm=true)(c:CompOkC X scope Nc js)(hi:PI X tg iter wi)(hg:∀C s3 H3 fp,PG (X.compC scope C Nc s3 H3 fp) tg g)
  (he:∀C s3 H3 fp,PE (X.compC scope C Nc s3 H3 fp) elt te) (hsw:swapsWith (.ListComp elt [⟨tg,iter,[],0⟩] scope pos) (some (.Name y py)) spos.line X.env=pure true:=by rfl)
  (hs:∀x,foldedSetIterable iter X.env x=pure x:=by intro _;rfl) (hf:X.fn y=true\/X.env.scope.names.lookup y=some .local:=by first|exact .inl rfl|exact .inr rfl|assumption) :
  PS X (.Assign [.Name y py] (.ListComp elt [⟨tg,iter,[],0⟩] scope pos) spos) (tAsg (jdx wi g js te) (jco i)):=by
 intro pins s σ H D I h
 rw[Yi _ _ _ _ hsw]
 refine Aa (Wg (Aa ?_))
 show wpAny _ X.A (do let _ <-comprehension (.ListComp elt [⟨tg,iter,[],0⟩] scope pos) scope X.env _ (newList []) false (eval iter X.env) (some (assign (.Name y py) X.env))) _ _ s
 refine Aa (Ox (Uo (use:=some (assign (.Name y py) X.env)) (g:=⟨tg,iter,[],0⟩) (gs:=[]) (Q:=λ_ s'=>SP X pins D .next s') rfl hs (jdd (c.has I)) c.kind c.loc
  (jk1 (RR:=λacc C=>compPost (model X.prog X.w) X.A X.xe (some (assign (.Name y py) X.env)) (λ_ s'=>SP X pins D .next s') acc C) (NX:=λDa H'=>D.nx (σ.set i (some (.ref Da))) H') hc c hi hg he I h λDa H3 s3 fp σ5 H5 s6 I3 f3 I6 qn=>?_))
  (λ_ s' hq=>Ab (Ab hq)) λ_ _ e=>e)
 obtain⟨m,hn,_⟩:=id I6.loc
 have I7:Inv X pins σ H5 s6:=jjr I3 f3 I6 (.refl ..)
 have hC:H5 s3.heap.objs.size=none:=I6.free
 have nL:s3.heap.objs.size≠X.env.locals:=Uk I3.lt
 have nc:∀x a,X.env.cells.lookup x=some a->a≠s3.heap.objs.size:=λx a e=>by
  obtain⟨v,q⟩:=I3.cell x a e
  exact Ao q.lt
 have np:∀p∈X.pn++pins,p.1≠s3.heap.objs.size:=λp hp=>Ao (Al (I3.pin p hp).1)
 show wpAny _ _ (assign (.Name y py) X.env (.ref Da)) _ _ _
 refine W3 (jdw (v:=.ref Da) I7 hN hiN hy rfl (λs8 I8 hb=>?_) hf)
 obtain⟨a,hs8,ha⟩:=hb
 have nCa:s3.heap.objs.size≠a:=by
  rcases ha with z|z
  ·rw[z];exact nL
  ·exact(nc y a z).symm
 refine⟨m,hn.sameBut hs8 nCa,λh9 hs9=>?_⟩
 exact⟨_,H5,I8.turned (t':=s8.toks) (λb o hb e=>(hs9.2 b hb).trans e) hC nL (.inr (Io I3.sz (Af _))) nc np,qn⟩
end
section
variable{X:Cx}{scope:Scope}{Nc:List Str}{js:List (Option Nat)}{elt tg iter:Expr}{pos:Pos}{wi:TI}{g:TG}{te:TE}
theorem qps_setcC{i:Nat}{y:Str}{py spos:Pos}(hN:X.N.Nodup)(hiN:X.N[i]?=some y)(hy:Loc X.env.scope y)(hc:X.calm=true)(c:CompOkC X scope Nc js)(hi:QI X tg iter wi)(hg:∀C s3 H3 fp,QG (X.compC scope C Nc s3 H3 fp) tg g)
  (he:∀C s3 H3 fp,QE (X.compC scope C Nc s3 H3 fp) elt te) (hsw:swapsWith (.ListComp elt [⟨tg,iter,[],0⟩] scope pos) (some (.Name y py)) spos.line X.env=pure true:=by rfl)
  (hs:∀x,foldedSetIterable iter X.env x=pure x:=by intro _;rfl) (hf:X.fn y=true\/X.env.scope.names.lookup y=some .local:=by first|exact .inl rfl|exact .inr rfl|assumption) :
  QS X (.Assign [.Name y py] (.ListComp elt [⟨tg,iter,[],0⟩] scope pos) spos) (tAsg (jdx wi g js te) (jco i)):=⟨ps_setcC hN hiN hy hc c hi.h (λC s H f=>(hg C s H f).h) (λC s H f=>(he C s H f).h) hsw hs hf⟩
def jid(sc:Scope)(N:List Str)(scope:Scope)(Nc:List Str)(js:List (Option Nat)):Bool :=
 (scope.kind == .function) && scope.names.all (λy=>!(y.2 == .local) || scope.names.lookup y.1 == some .local) &&
 scope.names.all (λy=>!(y.2 == .free) || ((sc.names.lookup y.1 == some .cell || sc.names.lookup y.1 == some .free) && !(scope.names.lookup y.1 == some .local) && !(scope.names.any λz=>z.1 == y.1 && z.2 == .cell))) && (js.length == Nc.length) &&
 (List.range js.length).all (λi=>match js[i]? with
  |some (some j)=>(N[j]? == Nc[i]?) && (match Nc[i]? with|some x=>scope.names.any (λy=>y.1 == x && y.2 == .free)|none=>true)
  |_=>true)
theorem jk0{sc scope:Scope}{N Nc:List Str}{js:List (Option Nat)}(hd:jid sc N scope Nc js=true)(hsc:X.env.scope=sc:=by rfl)(hN:X.N=N:=by rfl):CompOkC X scope Nc js:=by
 simp only[jid,Iz,Yg,Bool.or_eq_true,Bool.not_eq_true',Us,Ub]at hd
 obtain⟨⟨⟨⟨h1,h3⟩,h4⟩,h5⟩,h6⟩:=hd
 have kk:∀x,X.env.kindOf x=sc.names.lookup x:=λx=>by rw[<-hsc];rfl
 refine⟨h1,λy hy e=>?_,λy hy e=>?_,h5,λx hx=>?_,λi j x e1 e2=>?_,λx hx=>?_⟩
 ·rcases h3 y hy with q|q
  ·rw[e]at q;cases q
  ·exact q
 ·rcases h4 y hy with q|q
  ·rw[e]at q;cases q
  ·rw[kk]
   exact q.1.1
 ·rcases h4 _ hx with q|q
  ·cases q
  ·intro z
   have q2:=q.1.2
   rw[z]at q2
   cases q2
 ·have hi:i<js.length:=(Ag.mp e1).1
  have q:=h6 i hi
  rw[e1,e2]at q
  simp only[Iz,Us,O0]at q
  refine⟨by rw[hN];exact q.1,?_⟩
  obtain⟨y,hy,hy1,hy2⟩:=q.2
  obtain⟨a,b⟩:=y
  simp only at hy1 hy2
  subst hy1 hy2
  exact hy
 ·rcases h4 _ hx with q|q
  ·cases q
  ·intro z
   have q2:=q.2
   rw[List.any_eq_false]at q2
   exact q2 _ z (by simp)
def jn2(scope sc:Scope):Scope:={scope with names:=scope.names.map fun(n,k)=>if(k == .free && sc.kind == .function && sc.names.lookup n == some .cell)then(n,.cell)else(n,k)}
end
theorem jk7(t:SetTable)(es:Array (Int×Value))(h:Int)(x:Value):(layNew t es h x).2.1.led=t.led:=by
 unfold layNew
 cases t.freeSlot h with
 |none=>rfl
 |some p =>
  show((t.put p.1).1.orStandIn _).led=t.led
  unfold SetTable.orStandIn
  split <;> rfl
theorem jml(t:SetTable)(es:Array (Int×Value))(h:Int)(x:Value)(hp:t.plain=false):(layNew t es h x).2.1.plain=false:=by
 unfold layNew
 cases t.freeSlot h with
 |none=>rfl
 |some p =>
  show((t.put p.1).1.orStandIn _).plain=false
  unfold SetTable.orStandIn
  split
  ·exact hp
  ·rfl
theorem jip{m f mv:Nat}{L p:Bool}{hs:Array Int}{r:SetTable×Array Nat}(e:SetTable.laid m f mv L p hs=some r):r.1.led=L/\r.1.plain=p:=by
 unfold SetTable.laid at e
 cases h:SetTable.layClean m hs with
 |none=>rw[h]at e;cases e
 |some o=>rw[h]at e;cases e;exact⟨rfl,rfl⟩
theorem jmu(t:SetTable)(es:Array (Int×Value))(k:Nat):(relayAll t es k).2.1.led=t.led:=by
 unfold relayAll
 cases h:t.relaid (es.map (·.1)) k with
 |none=>rfl
 |some r =>
  dsimp only
  split
  ·exact(jip h).1
  ·rfl
theorem jn3(t:SetTable)(es:Array (Int×Value))(k:Nat)(hp:t.plain=false):(relayAll t es k).2.1.plain=false:=by
 unfold relayAll
 cases h:t.relaid (es.map (·.1)) k with
 |none=>rfl
 |some r =>
  dsimp only
  split
  ·rw[(jip h).2];exact hp
  ·rfl
def keyE(e:Int×Value):Str:=match e.2 with
 |.str k _=>k
 |_=>⟨#[]⟩
section
variable{prog:Program}{w:World}{A:Around}{E:Value->Shared->Prop}{s:Shared}
structure SX(prog:Program)(w:World)(h:Heap)(a:Addr)(L:Bool)(ks:List Str)(o:Obj)(es:Array (Int×Value))(ep:Nat)(t:SetTable):Prop where
 at_:h.get? a=some o
 ex:o.ExactSet
 dt:o.data=.set es ep t
 el:ElemsOf (strKind prog w) es.toList
 key:(es.toList.map keyE).Perm ks
 nd:ks.Nodup
 sz:es.size<scanBound
 fits:t.fits es.size=true
 led:t.led=L
 pl:es.size=0\/t.plain=false
def SXO(prog:Program)(w:World)(h:Heap)(a:Addr)(L:Bool)(ks:List Str):Prop:=∃o es ep t,SX prog w h a L ks o es ep t
theorem SX.to{h h':Heap}{a:Addr}{L:Bool}{ks:List Str}{o:Obj}{es:Array (Int×Value)}{ep:Nat}{t:SetTable}(x:SX prog w h a L ks o es ep t)(e:h'.get? a=some o):SX prog w h' a L ks o es ep t :=
 ⟨e,x.ex,x.dt,x.el,x.key,x.nd,x.sz,x.fits,x.led,x.pl⟩
theorem jge{e:Int×Value}{k:Str}(h:Value.isStrOf k e.2=true):keyE e=k:=by
 obtain⟨t,e2⟩:=Yz h
 unfold keyE
 rw[e2]
theorem SX.mem{h:Heap}{a:Addr}{L:Bool}{ks:List Str}{o:Obj}{es:Array (Int×Value)}{ep:Nat}{t:SetTable}(x:SX prog w h a L ks o es ep t)(k:Str):k∈ks↔∃e∈es.toList,Value.isStrOf k e.2=true:=by
 rw[<-x.key.mem_iff,Ay]
 constructor
 ·rintro⟨e,he,rfl⟩
  obtain⟨⟨k',hk,_⟩,_⟩:=x.el e he
  have hk':Value.isStrOf k' e.2=true:=hk
  exact⟨e,he,by rw[jge hk'];exact hk'⟩
 ·rintro⟨e,he,hk⟩
  exact⟨e,he,jge hk⟩
theorem SX.len{h:Heap}{a:Addr}{L:Bool}{ks:List Str}{o:Obj}{es:Array (Int×Value)}{ep:Nat}{t:SetTable}(x:SX prog w h a L ks o es ep t):es.size=ks.length:=by
 rw[<-x.key.length_eq,Ad,Array.length_toList]
theorem SX.store{h:Heap}{a:Addr}{L:Bool}{ks ks':List Str}{o:Obj}{es es':Array (Int×Value)}{ep:Nat}{t t':SetTable}(x:SX prog w h a L ks o es ep t)(el:ElemsOf (strKind prog w) es'.toList)
  (key:(es'.toList.map keyE).Perm ks') (nd:ks'.Nodup) (sz:es'.size<scanBound) (fits:t'.fits es'.size=true) (led:t'.led=L) (pl:t'.plain=false) :
  SX prog w (h.update a (Obj.putSet es' t')) a L ks' {o with data:=.set es' (ep+1) t'} es' (ep+1) t':=by
 refine⟨?_,x.ex,rfl,el,key,nd,sz,fits,led,.inr pl⟩
 have e:=Oe (Obj.putSet es' t') x.at_ (by rw[putSet_of es' t' x.dt];rfl)
 rwa[putSet_of es' t' x.dt]at e
theorem jbs{g:Bool->Sem Unit}(hg:∀(b:Bool) (s1:Shared) (Q1:Unit->Shared->Prop),Q1 () s1->wpAny (model prog w) A (g b) Q1 E s1){a:Addr}{L:Bool}{ks ks':List Str}{o:Obj}{es es1:Array (Int×Value)}{ep:Nat}{t t2:SetTable}
  (x:SX prog w s.heap a L ks o es ep t) (el:ElemsOf (strKind prog w) es1.toList) (key:(es1.toList.map keyE).Perm ks') (nd:ks'.Nodup) (sz:es1.size<scanBound) (fits:t2.fits es1.size=true) (led:t2.led=L) (pl:t2.plain=false)
  {wd:Bool}{R:Option Bool->Shared->Prop} (h:∀h',Heap.SameBut a s.heap h'->SXO prog w h' a L ks'->R (some true) {s with heap:=h'}) :
  wpAny (model prog w) A (do
   storeSet a es1 t2
   if(!wd && t2.tooFull)=true then do
      g (relayAll t2 es1 (SetTable.grown es1.size)).2.2
      storeSet a (relayAll t2 es1 (SetTable.grown es1.size)).1 (relayAll t2 es1 (SetTable.grown es1.size)).2.1
      pure (some true)
    else pure (some true)) R E s:=by
 have x1:=x.store el key nd sz fits led pl
 have b1:=Uq s.heap a (Obj.putSet es1 t2)
 refine Aa (wpAny_storeSet_of x.at_ x.dt ?_ (W7 sz))
 by_cases hc:(!wd && t2.tooFull)=true
 ·rw[Ap hc]
  have rp:=relayAll_perm t2 es1 (SetTable.grown es1.size)
  have rf:=relayAll_fits t2 es1 (SetTable.grown es1.size)
  have rl:=jmu t2 es1 (SetTable.grown es1.size)
  have rq:=jn3 t2 es1 (SetTable.grown es1.size) pl
  generalize relayAll t2 es1 (SetTable.grown es1.size)=W at rp rf rl rq
  obtain⟨es2,t3,gv⟩:=W
  dsimp only at rp rf rl rq⊢
  have z2:es2.size=es1.size:=by rw[<-Array.length_toList,rp.length_eq,Array.length_toList]
  have x2:=x1.store (el.perm rp) ((rp.map keyE).trans key) nd (by rw[z2];exact sz) rf (rl.trans led) rq
  refine Aa (hg _ _ _ (Aa (wpAny_storeSet_of x1.at_ x1.dt ?_ (W7 (by rw[z2];exact sz)))))
  exact Ab (h _ (b1.trans (Uq _ a _)) ⟨_,_,_,_,x2⟩)
 ·rw[At hc]
  exact Ab (h _ b1 ⟨_,_,_,_,x1⟩)
theorem jne{a:Addr}{L:Bool}{ks:List Str}{k:Str}{tk:Tok}{Q:Bool->Shared->Prop}(hS:SXO prog w s.heap a L ks)(hr:ks.length+1<scanBound)
  (h:∀h',Heap.SameBut a s.heap h'->SXO prog w h' a L (stpS ks k)->∀b,Q b {s with heap:=h'}) :
  wpAny (model prog w) A (setAddHashed a (.str k tk) ((strKind prog w).hash k)) Q E s:=by
 obtain⟨o,es,ep,t,x⟩:=hS
 have hk:=jin (prog:=prog) (w:=w) k tk
 have hsc:(Value.str k tk).scannable=true:=rfl
 have hl:=x.len
 unfold setAddHashed setAddHashedIn
 refine On (Aa (U5 x.at_ x.dt x.fits ?_))
 dsimp only
 rw[byScan_of hsc x.sz x.el,Ap rfl]
 unfold setAddByScan
 refine Aa (Aa (U6 (Aa (wpAny_setScan_of hk x.at_ x.dt x.fits x.el ?_))))
 by_cases hin:k∈ks
 ·obtain⟨e,he,hke⟩:=(x.mem k).mp hin
  have hst:stpS ks k=ks:=by unfold stpS;rw[Ap (O0.mpr ⟨k,hin,by simp⟩)]
  cases hf:es.toList.findIdx? (λe=>(strKind prog w).is k e.2)with
  |none=>exact absurd hke (by rw[show Value.isStrOf k e.2=(strKind prog w).is k e.2 from rfl,List.findIdx?_eq_none_iff.mp hf e he];decide)
  |some j =>
   dsimp only
   have q:=h s.heap (Heap.SameBut.refl a s.heap) (by rw[hst];exact⟨o,es,ep,t,x⟩)
   exact Ab (Ab (q _))
 ·have hst:stpS ks k=ks++[k]:=by
   unfold stpS
   rw[At]
   intro q
   obtain⟨y,hy,e⟩:=O0.mp q
   exact hin (by rw[<-show y=k by simpa using e];exact hy)
  cases hf:es.toList.findIdx? (λe=>(strKind prog w).is k e.2)with
  |some j =>
   obtain⟨hj,hpj,_⟩:=List.findIdx?_eq_some_iff_getElem.mp hf
   exact absurd ((x.mem k).mpr ⟨_,Ov hj,hpj⟩) hin
  |none =>
   dsimp only
   have lp:=layNew_perm t es ((strKind prog w).hash k) (.str k tk)
   have lf:=layNew_fits t es ((strKind prog w).hash k) (.str k tk)
   have ll:=jk7 t es ((strKind prog w).hash k) (.str k tk)
   have lq:=jml t es ((strKind prog w).hash k) (.str k tk)
   generalize layNew t es ((strKind prog w).hash k) (.str k tk)=W at lp lf ll lq
   obtain⟨es1,t1,wd,gv⟩:=W
   dsimp only at lp lf ll lq⊢
   rw[Array.toList_push]at lp
   have el1:ElemsOf (strKind prog w) es1.toList:=(x.el.push hk hsc).perm lp
   have key1:(es1.toList.map keyE).Perm (ks++[k]):=by
    refine(lp.map keyE).trans ?_
    rw[I0]
    exact x.key.append_right [k]
   have nd1:(ks++[k]).Nodup:=by
    rw[List.nodup_append]
    exact⟨x.nd,by simp,λu hu v hv e=>hin (by rw[<-Ah.mp hv,<-e];exact hu)⟩
   have sz1:es1.size<scanBound:=by
    rw[<-Array.length_toList,lp.length_eq,Aw,Array.length_toList,hl]
    exact hr
   have gv_ok:∀(b:Bool)(s1:Shared)(Q1:Unit->Shared->Prop),Q1 () s1->wpAny (model prog w) A (match b with|true=>rule "set.scan.the-table-gave-way"|false=>pure ()) Q1 E s1:=λb s1 Q1 q=>by
    cases b
    ·exact Ab q
    ·exact U6 q
   refine Aa (gv_ok gv _ _ ?_)
   have done:∀h',Heap.SameBut a s.heap h'->SXO prog w h' a L (ks++[k])->∀b,Q b {s with heap:=h'}:=λh' b1 b2=>h h' b1 (by rw[hst];exact b2)
   by_cases hp:t1.plain=true
   ·rw[Ap hp]
    refine Aa ?_
    rw[hashByValue_scannable 8 hsc]
    refine Ab ?_
    refine jbs gv_ok x el1 key1 nd1 sz1 ?_ ?_ ?_ λh' b1 b2=>Ab (done h' b1 b2 _)
    ·exact SetTable.fits_plain_off lf
    ·exact ll.trans x.led
    ·rfl
   ·rw[At hp]
    refine Aa (Ab ?_)
    rw[Ap rfl]
    exact jbs gv_ok x el1 key1 nd1 sz1 lf (ll.trans x.led) (by simpa using hp) λh' b1 b2=>Ab (done h' b1 b2 _)
end
section
variable{prog:Program}{w:World}{A:Around}{R:Result->Shared->Prop}{I:Addr}{fp wr:List Addr}{G:Array GenState->Array GenState->Prop}{n:Nat}{P:Nat->Value->Prop}{St:Nat->Shared->Prop}
theorem jmy(W:WalksS prog w A.in1 I fp wr G n P St)(S:Addr)(hSf:S∉fp)
  {L:Bool} (val:Nat->Str) (hval:∀i v,P i v->∃t,v=.str (val i) t) (hb:n+1<scanBound) :
  ∀(k i:Nat)(s:Shared),n-i=k->i<=n->St i s ->
   SXO prog w s.heap S L (fmS val i) ->
   (∀s',Moved (S::wr) G s s'->SXO prog w s'.heap S L (fmS val n)->R (.ok (.ret .none)) s') ->
   codeAny (model prog w) A (.builtin "set.update.loop" ⟨[.ref S,.ref I],[]⟩) R s:=by
 have hSw:S∉wr:=λh=>hSf (W.sub _ h)
 have hsub:∀b∈wr,b∈S::wr:=λb hb=>Im _ hb
 intro k
 induction k with
 |zero =>
  intro i s hk hi hst hS hR
  have hin:i=n:=by omega
  subst hin
  refine Ot Wy ?_
  rw[Od Uw _]
  show wpAny _ A.in1 (pyNext (.ref I) >>= _) _ _ s
  refine Aa (W.done s _ _ hst λs' hm=>?_)
  show wpAny _ A.in1 (ret Value.none) _ _ s'
  exact Ab (hR s' (hm.mono hsub) (by
   obtain⟨o,es,ep,t,x⟩:=hS
   exact⟨o,es,ep,t,x.to (hm.heap S _ hSw x.at_)⟩))
 |succ k ih =>
  intro i s hk hi hst hS hR
  have hlt:i<n:=by omega
  refine Ot Wy ?_
  rw[Od Uw _]
  show wpAny _ A.in1 (pyNext (.ref I) >>= _) _ _ s
  refine Aa (W.item i s _ _ hlt hst λv s' hP hst' hm=>?_)
  obtain⟨t,rfl⟩:=hval i v hP
  have hS':SXO prog w s'.heap S L (fmS val i):=by
   obtain⟨o,es,ep,tb,x⟩:=hS
   exact⟨o,es,ep,tb,x.to (hm.heap S _ hSw x.at_)⟩
  show wpAny _ A.in1 (holding [Value.str (val i) t] (setAdd S (.str (val i) t)) >>= _) _ _ s'
  refine Aa (On ?_)
  unfold setAdd
  refine On ?_
  refine Aa ((strKind prog w).pyHash (k:=val i) (jin _ _) ?_)
  have hroom:(fmS val i).length+1<scanBound:=by have:=jim val i;omega
  refine jne (s:={s' with toks:=s'.toks+1}) hS' hroom λh' hsb hS2 _=>?_
  have hSi:SXO prog w h' S L (fmS val (i+1)):=by rw[jfb];exact hS2
  refine Ab ⟨Ua Uw _,ih (i+1) _ (by omega) hlt (W.frame _ s' _ _ hst' (Wq _) λb hb o e=>?_) hSi λs'' hm'' hS''=>?_⟩
  ·rw[hsb.2 b (λh:b=S=>hSf (by rw[<-h];exact hb))];exact e
  ·refine hR s'' (Moved.trans W.gtrans ((hm.mono hsub).then_heap (Wq _) λb o hb e=>?_) hm'') hS''
   rw[hsb.2 b (λh:b=S=>hb (by rw[h];exact Oa))];exact e
end
def setO(L:Bool):Obj:={cls:=.type "set",dict:=none,data:=.set #[] 0 (.fresh 0 0 L)}
section
variable{prog:Program}{w:World}{A:Around}{E:Value->Shared->Prop}{s:Shared}
theorem jn6(a:Value){Q₁:Value->Shared->Prop}(h:Q₁ (.ref s.heap.objs.size) {s with heap:=s.heap.push (setO (!w.params.followText "set-order"))}) :
  codeAny (model prog w) A (.call (.builtin "set.__new__") ⟨[.type "set",a],[]⟩) (wants Q₁ E) s:=by
 have hsub:=sub_set_self
 refine codeAny_of_tree (show wpAny _ A.in1 (do checkBuiltinCall "set.__new__" ⟨[.type "set",a],[]⟩;again (.builtin "set.__new__" ⟨[.type "set",a],[]⟩)) _ _ s from ?_)
 refine Aa (wpAny_of_eq (PySem.F.newCall_set_1 a) (Ab ⟨Ua PySem.F.plain_set_new _,Ot PySem.F.entry_set_new ?_⟩))
 rw[Od PySem.F.plain_set_new _,Builtin.«set.__new__»,Builtin.Frozenset.newClass]
 obtain⟨hp,g,d,tk,os⟩:=s
 dsimp only
 wp_walk
 refine Wc (Ab ?_)
 show wpAny _ _ (newObj (.type "set") (.set #[] 0 (.fresh 0 0 (!w.params.followText "set-order")))) _ _ _
 unfold newObj
 exact Aa (wpAny_alloc (Ab (Ab h)))
theorem jbm{T IT:String}{l:Addr}{ol:Obj}{items:Array Value}{ss:List Str}{St:Addr->Nat->Heap->Prop}{Q:Value->Shared->Prop}(hh:A.handled=none)(hol:s.heap.get? l=some ol)(hcl:ol.cls=.type T)
  (hsls:isSubtype (.type T) (.type "set")=pure false) (hslf:isSubtype (.type T) (.type "frozenset")=pure false) (hne:(Value.type T == Value.type "dict")=false)
  (hit:∀(A':Around)(E':Value->Shared->Prop)(s':Shared)(Q':Value->Shared->Prop),s'.heap.get? l=some ol->Q' (.ref s'.heap.objs.size) {s' with heap:=s'.heap.push {cls:=.type IT,data:=.fields #[.ref l,.int 0 0]}}->wpAny (model prog w) A' (pyIter (.ref l)) Q' E' s')
  (hw:∀(A':Around)(I:Addr),A'.handled=none->l≠I->Walks prog w A' I [I,l] [I] items.size (λi v=>items[i]?=some v) (St I))
  (hs0:∀(I:Addr)(h:Heap),h.get? l=some ol->h.get? I=some {cls:=.type IT,data:=.fields #[.ref l,.int 0 0]}->St I 0 h)
  (hs:∀(i:Nat)(v:Value),items[i]?=some v->∃t,v=.str (ss.getD i ⟨#[]⟩) t) (hb:items.size+1<scanBound)
  (h:∀(h':Heap)(tk:Nat),SXO prog w h' s.heap.objs.size (!w.params.followText "set-order") (fmS (λi=>ss.getD i ⟨#[]⟩) items.size) ->
   (∀b o,b<s.heap.objs.size->s.heap.get? b=some o->h'.get? b=some o)->Q (.ref s.heap.objs.size) {s with heap:=h',toks:=tk}) :
  wpAny (model prog w) A (call (.type "set") [.ref l]) Q E s:=by
 obtain⟨c,tl,hmro⟩:=O7.mro
 have hmade:=O7.made
 have hsub:=O7.sub
 refine wpAny_call (codeAny_of_tree ?_)
 show wpAny _ _ (callAny (.type "set") _) _ _ _
 refine Ab ⟨Code.quiet_builtin _ (by decide +kernel),Ot PySem.F.entry_type_call ?_⟩
 rw[Around.under_plain (weight_type_call_type "set" [.ref l] []) rfl]
 have h1:=O7.notType
 have h2:=O7.canCreate
 have hct:=PySem.F.typeCall_set_1 (.ref l)
 repeat (any_goals (first|assumption|wp_step))
 refine Wk (jn6 (.ref l) (E:=E) (Q₁:=λobj s₁=>obj=.ref s.heap.objs.size/\s₁={s with heap:=s.heap.push (setO (!w.params.followText "set-order"))}) ⟨rfl,rfl⟩) λr s₁ hr=>?_
 cases r with
 |error e=>exact hr
 |ok fl =>
  cases fl with
  |ret obj =>
   obtain⟨rfl,rfl⟩:=hr
   have hS:(s.heap.push (setO (!w.params.followText "set-order"))).get? s.heap.objs.size=some (setO (!w.params.followText "set-order")):=Ai _ rfl
   have hT:Shared.TypeIs {s with heap:=s.heap.push (setO (!w.params.followText "set-order"))} (.ref s.heap.objs.size) "set":=⟨_,hS,rfl⟩
   have hli:=O7.init.lookup
   have hbi:=O7.init.bind (.ref s.heap.objs.size)
   repeat (any_goals (first|assumption|wp_step))
   refine Wk (codeAny_call_builtin (R:=wants (λr s₂=>r=.none/\∃h' tk,s₂={s with heap:=h',toks:=tk} /\
     SXO prog w h' s.heap.objs.size (!w.params.followText "set-order") (fmS (λi=>ss.getD i ⟨#[]⟩) items.size) /\
     (∀b o,b<s.heap.objs.size->s.heap.get? b=some o->h'.get? b=some o)) E) O7.init.plain PySem.F.entry_set_init (check_set_init_1 hT ?_)) λr₂ s₂ hr₂=>?_
   ·have hol':(s.heap.push (setO (!w.params.followText "set-order"))).get? l=some ol:=Ac _ hol
    have hTl:Shared.TypeIs {s with heap:=s.heap.push (setO (!w.params.followText "set-order"))} (.ref l) T:=⟨_,hol',hcl⟩
    unfold Builtin.«set.__init__» noKeywords Builtin.Frozenset.updateFrom
    generalize hPI:pyIter=PI
    wp_walk
    subst hPI
    refine hit _ _ _ _ hol' ?_
    refine Aa (wpAny_runValue ?_)
    have hlS:l<s.heap.objs.size:=Al hol
    have hh3:A.in1.in1.in1.handled=none:=by simp[hh]
    have hneI:l≠(s.heap.push (setO (!w.params.followText "set-order"))).objs.size:=by
     rw[Az]
     exact Ao (O4 hlS)
    have hSf:s.heap.objs.size∉[(s.heap.push (setO (!w.params.followText "set-order"))).objs.size,l]:=by
     rw[Az,Ar,Ah]
     rintro(q|q)
     ·exact absurd q (Ao (Og _))
     ·exact absurd q (Uk hlS)
    refine jmy ((hw _ _ hh3 hneI).toS) s.heap.objs.size hSf (L:=!w.params.followText "set-order") (λi=>ss.getD i ⟨#[]⟩) hs hb (items.size-0) 0 _ rfl (Ou _)
     (hs0 _ _ (Ac _ hol') (Ai _ rfl)) ?hS0 ?hR
    case hS0 =>
     exact⟨_,#[],0,_,Ac _ hS,⟨rfl,rfl,rfl⟩,rfl,λe he=>by simp at he,.nil,.nil,by decide,rfl,rfl,.inl rfl⟩
    case hR =>
     intro s' hm hS'
     obtain⟨h',g',d',tk',os'⟩:=s'
     have eg:g'=s.gens:=hm.gens
     have ed:d'=s.drawn:=hm.drawn
     have eo:os'=s.os:=hm.os
     subst eg;subst ed;subst eo
     show wpAny _ _ _ _ _ _
     refine Ab ?_
     show wpAny _ _ (ret Value.none) _ _ _
     refine Ab ⟨rfl,h',tk',rfl,hS',λb o hb e=>?_⟩
     have hb1:b≠s.heap.objs.size:=Ao hb
     have hb2:b≠(s.heap.push (setO (!w.params.followText "set-order"))).objs.size:=by
      rw[Az];exact Ao (O4 hb)
     exact hm.heap b o (by simp only[Ar,Ah,Ae,Yh,not_or];exact⟨hb1,hb2⟩) (Ac _ (Ac _ e))
   ·cases r₂ with
    |error e=>exact hr₂
    |ok fl₂ =>
     cases fl₂ with
     |ret r =>
      obtain⟨rfl,h',tk,rfl,hS',hk'⟩:=hr₂
      repeat (any_goals (first|assumption|wp_step))
      exact h _ _ hS' hk'
     |_=>exact hr₂.elim
  |_=>exact hr.elim
end
theorem sit_next:Slot "set_iterator" "__next__" "set_iterator.__next__":=.of (owner:="set_iterator") (n:="__next__") (by rw[typeLookup_type,Yk];kernel_rfl) (by decide +kernel) (by decide +kernel) (by decide +kernel) (.inl (by decide +kernel)) (by rw[W2];kernel_rfl)
theorem jjd:Slot "set_iterator" "__iter__" "set_iterator.__iter__":=.of (owner:="set_iterator") (n:="__iter__") (by rw[typeLookup_type,Yk];kernel_rfl) (by decide +kernel) (by decide +kernel) (by decide +kernel) (.inl (by decide +kernel)) (by rw[W2];kernel_rfl)
theorem jm1:entryFor table "set_iterator.__next__"=some Builtin.«set_iterator.__next__»:=entryFor_of_tree (by kernel_rfl)
theorem jn7(a:Value):argsOk "set_iterator.__next__" ⟨[a],[]⟩:=by unfold argsOk;kernel_rfl
theorem jm0(a:Value):argsOk "set_iterator.__iter__" ⟨[a],[]⟩:=by unfold argsOk;kernel_rfl
theorem jgi:entryFor table "set.__iter__"=some Builtin.«frozenset.__iter__»:=entryFor_alias (id':="frozenset.__iter__") (by kernel_rfl) rfl (by decide +kernel) (by kernel_rfl)
theorem jlk:entryFor table "set_iterator.__iter__"=some Builtin.«dict_keyiterator.__iter__»:=entryFor_alias (id':="dict_keyiterator.__iter__") (by kernel_rfl) rfl (by decide +kernel) (by kernel_rfl)
def SIt(h:Heap)(I:Addr)(f:Value)(i:Nat)(a:Addr)(n ep:Nat):Prop:=∃o,h.get? I=some o/\o.cls=.type "set_iterator"/\o.data=.fields #[f,.int i 0,.ref a,.int n 0,.int ep 0]
theorem SIt.ty{s:Shared}{I:Addr}{f:Value}{i:Nat}{a:Addr}{n ep:Nat}(x:SIt s.heap I f i a n ep):s.TypeIs (.ref I) "set_iterator":=let⟨o,h,c,_⟩:=x;⟨o,h,c⟩
section
variable{prog:Program}{w:World}{A:Around}{E:Value->Shared->Prop}{s:Shared}
theorem jfi{I:Addr}{f:Value}{i:Nat}{a:Addr}{n ep:Nat}{Q:Value->Shared->Prop}(x:SIt s.heap I f i a n ep)(h:Q (.ref I) s):wpAny (model prog w) A (pyIter (.ref I)) Q E s:=by
 refine wpAny_pyIter_slot x.ty jjd (Op jjd x.ty jlk ?_ (jm0 _))
 exact Ab ⟨_,rfl,"set_iterator",_,x.ty,sit_next.lookup,h⟩
theorem SIt.upd{h:Heap}{I:Addr}{f:Value}{i:Nat}{a:Addr}{n ep:Nat}{o:Obj}(g:h.get? I=some o)(c:o.cls=.type "set_iterator")(d:o.data=.fields #[f,.int i 0,.ref a,.int n 0,.int ep 0])(k:Nat)(v:Value) :
  ∃o',(h.update I (Obj.mapFields (·.setIfInBounds k v))).get? I=some o'/\o'.cls=.type "set_iterator"/\o'.data=.fields ((#[f,.int i 0,.ref a,.int n 0,.int ep 0]:Array Value).setIfInBounds k v) :=
 ⟨_,Oe _ g (Yl (Ux d _)),(Obj.cls_mapFields ..).trans c,by rw[Ux d]⟩
theorem jjh{B:Around}(hh:B.handled=none){Q:Option Value->Shared->Prop}{R:Fin->Shared->Prop}(h:∀h',(∀b o,s.heap.get? b=some o->h'.get? b=some o)->Q none {s with heap:=h'}) :
  wpAny (model prog w) B.in1 (newExc (.type "StopIteration") [] >>= λe=>(raiseNew e:Sem Fin)) R
   (λe s'=>wpAny (model prog w) B (do if(<-isInstance e (.type "StopIteration"))=true then pure none else throw e) Q E s') s:=by
 refine Aa ?_
 simp only[newExc,newTuple]
 refine Aa (Oc ?_ (by size_fits))
 refine Aa (m:=firstArgMember _ _) (wpAny_of_eq (a:=Value.none) (by first|rfl|(simp only[firstArgMember];rfl)) (Oc ?_ (by size_fits)))
 simp only[raiseNew]
 refine Aa (wpAny_handled ?_)
 rw[show B.in1.handled=none from hh]
 refine Aa (Ab (wpAny_throw ?_))
 refine Aa (Wb (T:="StopIteration") (b:=true) ⟨_,Ai _ rfl,rfl⟩ isSubtype_stop (Ab ?_))
 exact(h _ λb o e=>Ac _ (Ac _ e))
theorem jd9{I a:Addr}{f:Value}{i n ep:Nat}{L:Bool}{ks:List Str}{o:Obj}{es:Array (Int×Value)}{t:SetTable}{Q:Option Value->Shared->Prop}(x:SIt s.heap I f i a n ep)(y:SX prog w s.heap a L ks o es ep t)(hn:es.size=n)
  (h:wpAny (model prog w) A.in1 (match f with
    |.int slot _=>do
     match <-setNext a slot.toNat i ep with
     |some (x,next) =>
      setField (.ref I) 0 (rawInt next)
      setField (.ref I) 1 (rawInt (i+1))
      ret x
     |none=>setField (.ref I) 2 .none;raiseNew (<-newExc (.type "StopIteration") [])
    |_=>do
     let some places <-seqItems? f|unsupported "internal:set_iterator"
     match places[i]? with
     |some (.int place _) =>
      let x <-setNextDrawn a place.toNat ep
      setField (.ref I) 1 (rawInt (i+1))
      ret x
     |some _=>unsupported "internal:set_iterator"
     |none=>setField (.ref I) 0 (rawInt 0);setField (.ref I) 2 .none;raiseNew (<-newExc (.type "StopIteration") []))
   (λfin s'=>∃v,fin=Fin.done (Flow.ret v)/\Q (some v) s') (λe s'=>wpAny (model prog w) A (do if(<-isInstance e (.type "StopIteration"))=true then pure none else throw e) Q E s') s) :
  wpAny (model prog w) A (pyNext (.ref I)) Q E s:=by
 obtain⟨oi,hi,ci,di⟩:=id x
 unfold pyNext
 refine Aa (Y8 (Oz (name:=Str.ofString "__next__") x.ty sit_next (Op sit_next x.ty jm1 ?_ (jn7 _))))
 unfold Builtin.«set_iterator.__next__»
 refine Aa (Ab ?_)
 refine Aa (wpAny_fieldsOf hi di ?_)
 dsimp only
 refine Aa (wpAny_setEntries_of y.at_ y.dt y.fits ?_)
 rw[At (by rw[hn];simp)]
 refine Ox ?_ (Q:=λfin s'=>∃v,fin=Fin.done (Flow.ret v)/\Q (some v) s') (λfin s' ⟨v,e,q⟩=>⟨v,e,Ab q⟩) λ_ _ q=>q
 simp only[Int.toNat_natCast]
 cases f <;> exact h
theorem jkl{I a:Addr}{sl i n ep nx:Nat}{L:Bool}{ks:List Str}{o:Obj}{es:Array (Int×Value)}{t:SetTable}{v:Value}{Q:Option Value->Shared->Prop}(x:SIt s.heap I (.int sl 0) i a n ep)(y:SX prog w s.heap a L ks o es ep t)(hn:es.size=n)
  (hx:∀(A':Around)(E':Value->Shared->Prop)(Q':Option (Value×Nat)->Shared->Prop),Q' (some (v,nx)) s->wpAny (model prog w) A' (setNext a sl i ep) Q' E' s)
  (hQ:∀h',SIt h' I (.int nx 0) (i+1) a n ep->Heap.SameBut I s.heap h'->Q (some v) {s with heap:=h'}):wpAny (model prog w) A (pyNext (.ref I)) Q E s:=by
 refine jd9 x y hn ?_
 obtain⟨oi,hi,ci,di⟩:=id x
 dsimp only
 rw[Int.toNat_natCast]
 refine Aa (hx _ _ _ ?_)
 dsimp only
 refine Aa (Ur hi di (by simp) ?_)
 obtain⟨o1,g1,c1,d1⟩:=SIt.upd hi ci di 0 (rawInt nx)
 refine Aa (Ur g1 d1 (by simp) ?_)
 refine Ab ⟨v,rfl,hQ _ ?_ ((Uq ..).trans (Uq ..))⟩
 exact⟨_,Oe _ g1 (Yl (Ux d1 _)),(Obj.cls_mapFields ..).trans c1,by rw[Ux d1];simp[rawInt]⟩
theorem jjc{I a:Addr}{sl i n ep:Nat}{L:Bool}{ks:List Str}{o:Obj}{es:Array (Int×Value)}{t:SetTable}{Q:Option Value->Shared->Prop}(hh:A.handled=none)(x:SIt s.heap I (.int sl 0) i a n ep)(y:SX prog w s.heap a L ks o es ep t)(hn:es.size=n)
  (hx:∀(A':Around)(E':Value->Shared->Prop)(Q':Option (Value×Nat)->Shared->Prop),Q' none s->wpAny (model prog w) A' (setNext a sl i ep) Q' E' s)
  (hQ:∀h',(∀b o,b≠I->s.heap.get? b=some o->h'.get? b=some o)->Q none {s with heap:=h'}):wpAny (model prog w) A (pyNext (.ref I)) Q E s:=by
 refine jd9 x y hn ?_
 obtain⟨oi,hi,ci,di⟩:=id x
 dsimp only
 rw[Int.toNat_natCast]
 refine Aa (hx _ _ _ ?_)
 dsimp only
 refine Aa (Ur hi di (by simp) ?_)
 exact jjh hh λh' k=>hQ h' λb o hb e=>k b o ((Iu _ _ (Up hb)).trans e)
theorem jo9{I a tp:Addr}{i n ep pl c:Nat}{L:Bool}{ks:List Str}{o:Obj}{es:Array (Int×Value)}{t:SetTable}{hv:Int}{v:Value}{ps:Array Value}{Q:Option Value->Shared->Prop}(x:SIt s.heap I (.ref tp) i a n ep)(y:SX prog w s.heap a L ks o es ep t)(hn:es.size=n)
  {ot:Obj} (ht:s.heap.get? tp=some ot) (hd:ot.data=.seq ps c) (hp:ps[i]?=some (rawInt pl)) (he:es[pl]?=some (hv,v))
  (hQ:∀h',SIt h' I (.ref tp) (i+1) a n ep->Heap.SameBut I s.heap h'->Q (some v) {s with heap:=h'}):wpAny (model prog w) A (pyNext (.ref I)) Q E s:=by
 refine jd9 x y hn ?_
 obtain⟨oi,hi,ci,di⟩:=id x
 dsimp only
 refine Aa (Om ht hd ?_)
 dsimp only
 rw[hp]
 dsimp only[rawInt]
 unfold setNextDrawn
 refine Aa (Aa (U5 y.at_ y.dt y.fits ?_))
 dsimp only
 rw[At (by simp),Int.toNat_natCast,he]
 refine Ab ?_
 refine Aa (Ur hi di (by simp) ?_)
 refine Ab ⟨v,rfl,hQ _ ?_ (Uq ..)⟩
 exact⟨_,Oe _ hi (Yl (Ux di _)),(Obj.cls_mapFields ..).trans ci,by rw[Ux di];simp⟩
theorem jn8{I a tp:Addr}{i n ep c:Nat}{L:Bool}{ks:List Str}{o:Obj}{es:Array (Int×Value)}{t:SetTable}{ps:Array Value}{Q:Option Value->Shared->Prop}(hh:A.handled=none)(x:SIt s.heap I (.ref tp) i a n ep)(y:SX prog w s.heap a L ks o es ep t)(hn:es.size=n)
  {ot:Obj} (ht:s.heap.get? tp=some ot) (hd:ot.data=.seq ps c) (hp:ps[i]?=none)
  (hQ:∀h',(∀b o,b≠I->s.heap.get? b=some o->h'.get? b=some o)->Q none {s with heap:=h'}):wpAny (model prog w) A (pyNext (.ref I)) Q E s:=by
 refine jd9 x y hn ?_
 obtain⟨oi,hi,ci,di⟩:=id x
 dsimp only
 refine Aa (Om ht hd ?_)
 dsimp only
 rw[hp]
 dsimp only
 refine Aa (Ur hi di (by simp) ?_)
 obtain⟨o1,g1,c1,d1⟩:=SIt.upd hi ci di 0 (rawInt 0)
 refine Aa (Ur g1 d1 (by simp) ?_)
 exact jjh hh λh' k=>hQ h' λb o hb e=>k b o ((Iu _ _ (Up hb)).trans ((Iu _ _ (Up hb)).trans e))
end
theorem jfe{α:Type}:∀(l:List α)(i:Nat)(x:α),l[i]?=some x->(x::l.eraseIdx i).Perm l
 |[],i,x,h=>by simp at h
 |a::l,0,x,h=>by simp at h;subst h;exact List.Perm.refl _
 |a::l,i+1,x,h=>by
  rw[List.eraseIdx_cons_succ]
  exact(List.Perm.swap a x _).trans ((jfe l i x (by simpa using h)).cons a)
theorem jb5{α:Type}(f:Nat->Nat):∀(fuel k:Nat)(left:List α)(out:Array α),left.length=fuel->(pickOrder.go f fuel k left out).toList.Perm (out.toList++left)
 |0,k,left,out,h=>by
  rw[Ud.mp h,Ug]
  exact List.Perm.refl _
 |fuel+1,k,left,out,h=>by
  have hlt:f k%left.length<left.length:=Nat.mod_lt _ (by omega)
  unfold pickOrder.go
  rw[Am hlt]
  dsimp only
  refine(jb5 f fuel (k+1) _ _ (by rw[Wp hlt];omega)).trans ?_
  rw[Array.toList_push,U4]
  exact List.Perm.append_left _ (jfe left _ _ (Am hlt))
theorem jbn{α:Type}(f:Nat->Nat)(es:Array α):(pickOrder f es).toList.Perm es.toList:=by
 have:=jb5 f es.size 0 es.toList #[] (by simp)
 simpa[pickOrder]using this
section
variable{prog:Program}{w:World}{A:Around}{E:Value->Shared->Prop}{s:Shared}
theorem jky{src:Source}{n:Nat}{Q:Nat->Shared->Prop}(hn:0<n)(h:∀i dr,i<n->Q i {s with drawn:=dr}):wpAny (model prog w) A (choose src n) Q E s:=λΓ p hΓ=>by
 show Sem.wp _ Γ (.choose src n .pure) _ _ p s
 rw[Sem.wp_choose]
 exact⟨by omega,h _ _ (Nat.mod_lt _ hn)⟩
theorem jik{α:Type}:∀(n:Nat)(xs:List α)(s:Shared){Q:List α->Shared->Prop},xs.length=n->(∀ys dr,ys.Perm xs->Q ys {s with drawn:=dr})->wpAny (model prog w) A (drawOrder n xs) Q E s
 |0,xs,s,Q,hl,h=>by
  unfold drawOrder
  exact Ab (h [] s.drawn (by rw[Ud.mp hl]))
 |n+1,[],s,Q,hl,h=>by simp at hl
 |n+1,x::xs,s,Q,hl,h=>by
  unfold drawOrder
  refine Aa (jky (by simp) λi dr hi=>?_)
  rw[Am hi]
  dsimp only
  refine Aa (jik n _ _ (by rw[Wp hi];omega) λys dr' hp=>Ab (h _ dr' ?_))
  exact(hp.cons _).trans (jfe _ i _ (Am hi))
theorem SX.str{h:Heap}{a:Addr}{L:Bool}{ks:List Str}{o:Obj}{es:Array (Int×Value)}{ep:Nat}{t:SetTable}(x:SX prog w h a L ks o es ep t){e:Int×Value}(he:e∈es.toList):∃tk,e.2=.str (keyE e) tk:=by
 obtain⟨⟨k,hk,_⟩,_⟩:=x.el e he
 have hk':Value.isStrOf k e.2=true:=hk
 rw[jge hk']
 exact Yz hk'
theorem jgz{a:Addr}{L:Bool}{ks:List Str}{o:Obj}{es:Array (Int×Value)}{ep:Nat}{t:SetTable}{sl i:Nat}{Q:Option (Value×Nat)->Shared->Prop}(hB:w.params.followText "set-order"=true)(x:SX prog w s.heap a L ks o es ep t)
  (h:Q (((pickOrder (w.params.setOrder a ep) es)[i]?).map λe=>(e.2,sl)) s):wpAny (model prog w) A (setNext a sl i ep) Q E s:=by
 unfold setNext setsByText
 refine Aa (U5 x.at_ x.dt x.fits ?_)
 dsimp only
 refine Aa (Aa (Wc (Ab ?_)))
 refine Oo (λ_=>?_) (λq=>absurd hB q)
 refine Oo (λq=>absurd q (by simp)) (λ_=>?_)
 unfold setWalk setsByText
 refine Aa (Aa (U5 x.at_ x.dt x.fits ?_))
 dsimp only
 refine Aa (Aa (Wc (Ab ?_)))
 refine Oo (λ_=>?_) (λq=>absurd hB q)
 exact Aa (Wc (Ab (Ab h)))
theorem jgy{a:Addr}{ks:List Str}{o:Obj}{es:Array (Int×Value)}{ep:Nat}{t:SetTable}{sl i:Nat}{Q:Option (Value×Nat)->Shared->Prop}(hB:w.params.followText "set-order"=false)(x:SX prog w s.heap a true ks o es ep t)(h1:es.size<=1)
  (h:Q (match es[SetTable.below t.place sl]?,t.place[SetTable.below t.place sl]? with|some (_,x),some j=>some (x,j+1)|_,_=>none) s):wpAny (model prog w) A (setNext a sl i ep) Q E s:=by
 unfold setNext setsByText
 refine Aa (U5 x.at_ x.dt x.fits ?_)
 dsimp only
 refine Aa (Aa (Wc (Ab ?_)))
 have hB':¬w.params.followText "set-order"=true:=by rw[hB];decide
 refine Oo (λq=>absurd q hB') (λ_=>?_)
 refine Oo (λq=>?_) (λ_=>?_)
 ·have q':(!t.plain && decide (es.size>1))=true:=q
  simp at q'
  omega
 refine Aa (show wpAny _ _ (if(!t.led && !es.isEmpty)=true then unsupported _ else pure ()) _ _ _ from ?_)
 refine Oo (λq=>absurd q (by rw[x.led];simp)) (λ_=>Ab (Ab h))
theorem SX.keep{h h':Heap}{a:Addr}{L:Bool}{ks:List Str}{o:Obj}{es:Array (Int×Value)}{ep:Nat}{t:SetTable}(x:SX prog w h a L ks o es ep t)(k:∀o,h.get? a=some o->h'.get? a=some o):SX prog w h' a L ks o es ep t:=x.to (k _ x.at_)
theorem SIt.keep{h h':Heap}{I:Addr}{f:Value}{i:Nat}{a:Addr}{n ep:Nat}(x:SIt h I f i a n ep)(k:∀o,h.get? I=some o->h'.get? I=some o):SIt h' I f i a n ep:=let⟨o,g,c,d⟩:=x;⟨o,k _ g,c,d⟩
theorem jnc{a I:Addr}(hne:a≠I){L:Bool}{ks:List Str}{o:Obj}{es:Array (Int×Value)}{ep:Nat}{t:SetTable}(hB:w.params.followText "set-order"=true)(hh:A.handled=none) :
  Walks prog w A I [I,a] [I] ((pickOrder (w.params.setOrder a ep) es).toList.map keyE).length (λi v=>∃tk,v=.str (((pickOrder (w.params.setOrder a ep) es).toList.map keyE).getD i ⟨#[]⟩) tk)
   (λi h=>SIt h I (.int (0:Nat) 0) i a es.size ep/\SX prog w h a L ks o es ep t) where
 sub:=λb hb=>by simp at hb;simp[hb]
 frame:=λ_ _ _ st hk=>⟨st.1.keep λo e=>hk I (by simp) o e,st.2.keep λo e=>hk a (by simp) o e⟩
 item:=λi s Q E hi st hQ=>by
  rw[Ad]at hi
  have hg:(pickOrder (w.params.setOrder a ep) es).toList[i]?=some ((pickOrder (w.params.setOrder a ep) es).toList[i]):=Am hi
  have hm:=(jbn (w.params.setOrder a ep) es).mem_iff.mp (Ov hi)
  generalize(pickOrder (w.params.setOrder a ep) es).toList[i]=e at hg hm
  obtain⟨tk,ek⟩:=st.2.str hm
  refine jkl (v:=e.2) (nx:=0) st.1 st.2 rfl (λA' E' Q' q=>jgz hB st.2 ?_) λh' x' k=>hQ e.2 h' s.toks ⟨tk,?_⟩ ⟨x',st.2.keep λo g=>(k.2 a hne).trans g⟩ λb o hb g=>(k.2 b (by simpa using hb)).trans g
  ·rw[<-U3,hg]
   exact q
  ·rw[ek,Ak,Ax,hg]
   rfl
 done:=λs Q E st hQ=>by
  refine jjc hh st.1 st.2 rfl (λA' E' Q' q=>jgz hB st.2 ?_) λh' k=>hQ h' s.toks λb o hb g=>k b o (by simpa using hb) g
  rw[<-U3,Ad,Of (Af _)]
  exact q
 self:=λ_ _ _ _ st hQ=>jfi st.1 hQ
theorem jlz{a I tp:Addr}(hne:a≠I)(hnt:tp≠I){L:Bool}{ks:List Str}{o ot:Obj}{es:Array (Int×Value)}{ep c:Nat}{t:SetTable}{ps:List Nat}(hp:ps.Perm (List.range es.size))(hd:ot.data=.seq (ps.map fun(i:Nat)=>rawInt i).toArray c)(hh:A.handled=none) :
  Walks prog w A I [I,a,tp] [I] (ps.map λp=>keyE (es.toList.getD p (0,.none))).length (λi v=>∃tk,v=.str ((ps.map λp=>keyE (es.toList.getD p (0,.none))).getD i ⟨#[]⟩) tk)
   (λi h=>SIt h I (.ref tp) i a es.size ep/\SX prog w h a L ks o es ep t/\h.get? tp=some ot) where
 sub:=λb hb=>by simp at hb;simp[hb]
 frame:=λ_ _ _ st hk=>⟨st.1.keep λo e=>hk I (by simp) o e,st.2.1.keep λo e=>hk a (by simp) o e,hk tp (by simp) _ st.2.2⟩
 item:=λi s Q E hi st hQ=>by
  rw[Ad]at hi
  have hg:ps[i]?=some ps[i]:=Am hi
  have hm:=Ub.mp (hp.mem_iff.mp (Ov hi))
  generalize ps[i]=pl at hg hm
  have hm':pl<es.toList.length:=by simpa using hm
  have he:es.toList[pl]?=some es.toList[pl]:=Am hm'
  have hmem:=Ov hm'
  generalize es.toList[pl]=e at he hmem
  obtain⟨tk,ek⟩:=st.2.1.str hmem
  refine jo9 (pl:=pl) (hv:=e.1) (v:=e.2) st.1 st.2.1 rfl st.2.2 hd (by simp[hg]) (by rw[<-U3,he]) λh' x' k=>hQ e.2 h' s.toks ⟨tk,?_⟩ ⟨x',st.2.1.keep λo g=>(k.2 a hne).trans g,(k.2 tp hnt).trans st.2.2⟩ λb o hb g=>(k.2 b (by simpa using hb)).trans g
  rw[ek,Ak,Ax,hg]
  show Value.str (keyE e) tk=.str (keyE (es.toList.getD pl (0,.none))) tk
  rw[Ak,he]
  rfl
 done:=λs Q E st hQ=>by
  refine jn8 hh st.1 st.2.1 rfl st.2.2 hd ?_ λh' k=>hQ h' s.toks λb o hb g=>k b o (by simpa using hb) g
  simp
 self:=λ_ _ _ _ st hQ=>jfi st.1 hQ
def jen(t:SetTable)(i:Nat):Nat:=if i=0 then 0 else t.place.getD 0 0+1
theorem jnb{a I:Addr}(hne:a≠I){ks:List Str}{o:Obj}{es:Array (Int×Value)}{ep:Nat}{t:SetTable}(hB:w.params.followText "set-order"=false)(h1:es.size<=1)(hf:t.fits es.size=true)(hh:A.handled=none) :
  Walks prog w A I [I,a] [I] (es.toList.map keyE).length (λi v=>∃tk,v=.str ((es.toList.map keyE).getD i ⟨#[]⟩) tk)
   (λi h=>SIt h I (.int (jen t i:Nat) 0) i a es.size ep/\SX prog w h a true ks o es ep t) where
 sub:=λb hb=>by simp at hb;simp[hb]
 frame:=λ_ _ _ st hk=>⟨st.1.keep λo e=>hk I (by simp) o e,st.2.keep λo e=>hk a (by simp) o e⟩
 item:=λi s Q E hi st hQ=>by
  rw[Ad,Array.length_toList]at hi
  have hi0:i=0:=by omega
  subst hi0
  have hz:es.size=1:=by omega
  have hps:t.place.size=1:=by
   simp only[SetTable.fits,Iz,Us]at hf
   omega
  obtain⟨e,he⟩:∃e,es=#[e]:=Ym.mp hz
  obtain⟨j,hj⟩:∃j,t.place=#[j]:=Ym.mp hps
  obtain⟨tk,ek⟩:=st.2.str (e:=e) (by rw[he];simp)
  have hb0:SetTable.below t.place 0=0:=by rw[hj];simp[SetTable.below,SetTable.below.go]
  refine jkl (v:=e.2) (nx:=j+1) st.1 st.2 rfl (λA' E' Q' q=>jgy hB st.2 h1 ?_) λh' x' k=>hQ e.2 h' s.toks ⟨tk,?_⟩ ⟨?_,st.2.keep λo g=>(k.2 a hne).trans g⟩ λb o hb g=>(k.2 b (by simpa using hb)).trans g
  ·show Q' (match es[SetTable.below t.place 0]?,t.place[SetTable.below t.place 0]? with|some (_,x),some j=>some (x,j+1)|_,_=>none) s
   rw[hb0,he,hj]
   exact q
  ·rw[ek,he]
   rfl
  ·have:jen t 1=j+1:=by unfold jen;rw[hj];rfl
   rw[this]
   exact x'
 done:=λs Q E st hQ=>by
  rw[Ad,Array.length_toList]at st
  refine jjc hh st.1 st.2 rfl (λA' E' Q' q=>jgy hB st.2 h1 ?_) λh' k=>hQ h' s.toks λb o hb g=>k b o (by simpa using hb) g
  have hps:t.place.size=es.size:=by
   simp only[SetTable.fits,Iz,Us]at hf
   exact hf.1
  have hx:es.size<=SetTable.below t.place (jen t es.size):=by
   by_cases hz:es.size=0
   ·omega
   ·have hz1:es.size=1:=by omega
    obtain⟨j,hj⟩:∃j,t.place=#[j]:=Ym.mp (hps.trans hz1)
    rw[hz1]
    unfold jen
    rw[hj]
    simp[SetTable.below,SetTable.below.go]
  rw[Array.getElem?_eq_none hx]
  exact q
 self:=λ_ _ _ _ st hQ=>jfi st.1 hQ
theorem jnr{a:Addr}{ks:List Str}{o:Obj}{es:Array (Int×Value)}{ep:Nat}{t:SetTable}{Q:Value->Shared->Prop}(x:SX prog w s.heap a (!w.params.followText "set-order") ks o es ep t)(hlt:a<s.heap.objs.size)
  (hQ:∀(I:Addr)(h':Heap)(dr:Drawn)(fp:List Addr)(ord:List Str)(St:Nat->Heap->Prop),(∀b o,s.heap.get? b=some o->h'.get? b=some o)->s.heap.objs.size<=I->I<h'.objs.size->ord.Perm ks ->
   (∀A':Around,A'.handled=none->Walks prog w A' I fp [I] ord.length (λi v=>∃tk,v=.str (ord.getD i ⟨#[]⟩) tk) St)->(∀b∈fp,b=a\/s.heap.objs.size<=b/\b<h'.objs.size)->St 0 h'->Q (.ref I) {s with heap:=h',drawn:=dr}) :
  wpAny (model prog w) A (pyIter (.ref a)) Q E s:=by
 have hT:s.TypeIs (.ref a) "set":=⟨o,x.at_,x.ex.1⟩
 refine wpAny_pyIter_slot hT PySem.F.slot_set_iter (Op PySem.F.slot_set_iter hT jgi ?_ (PySem.F.args_set_iter_1 _))
 unfold Builtin.«frozenset.__iter__» Builtin.Frozenset.slot0 Builtin.Frozenset.sizeOf
 refine Aa (Aa (Ab (Ab ?_)))
 refine Aa (Aa (wpAny_setEntries_of x.at_ x.dt x.fits (Ab ?_)))
 unfold setDrawn setsByText
 refine Aa (Aa (U5 x.at_ x.dt x.fits ?_))
 dsimp only
 refine Aa (Aa (Wc (Ab (Ab ?_))))
 have mk:∀(f:Value)(s1:Shared)(R:Shared->Prop),SX prog w s1.heap a (!w.params.followText "set-order") ks o es ep t->R {s1 with heap:=s1.heap.push {cls:=.type "set_iterator",data:=.fields #[f,.int (0:Nat) 0,.ref a,.int es.size 0,.int ep 0]}} ->
   wpAny (model prog w) A.in1 (do
    let e <-setEpoch a
    let v <-newFields "set_iterator" [f,rawInt 0,.ref a,rawInt es.size,rawInt e]
    ret v) (λfin s'=>∃v,fin=Fin.done (Flow.ret v)/\v=.ref s1.heap.objs.size/\R s') E s1:=by
  intro f s1 R x1 hR
  refine Aa (wpAny_setEpoch_of x1.at_ x1.dt x1.fits ?_)
  unfold newFields
  exact Aa (Oc (Ab ⟨_,rfl,rfl,hR⟩) (by size_fits))
 by_cases hB:w.params.followText "set-order"=true
 ·refine Oo (λq=>?_) (λ_=>?_)
  ·have q':(!w.params.followText "set-order" && (!t.plain && decide (es.size>1)))=true:=q
   rw[hB]at q'
   cases q'
  refine Aa (Ab ?_)
  refine Ox (mk (rawInt 0) s (λs'=>∃T' r,s'.TypeIs (.ref s.heap.objs.size) T'/\typeLookup (.type T') (Str.ofString "__next__")=pure (some r)/\Q (.ref s.heap.objs.size) s') x ?_) (λfin s' ⟨v,e1,e2,r⟩=>⟨v,e1,by rw[e2];exact r⟩) λ_ _ q=>q
  have hI:(s.heap.push {cls:=.type "set_iterator",data:=.fields #[rawInt 0,.int (0:Nat) 0,.ref a,.int es.size 0,.int ep 0]}).get? s.heap.objs.size=some {cls:=.type "set_iterator",data:=.fields #[rawInt 0,.int (0:Nat) 0,.ref a,.int es.size 0,.int ep 0]}:=Ai _ rfl
  refine⟨"set_iterator",_,⟨_,hI,rfl⟩,sit_next.lookup,?_⟩
  exact hQ _ _ s.drawn [s.heap.objs.size,a] _ _ (λb o e=>Ac _ e) (Af _) (by rw[Az];exact Og _) (((jbn (w.params.setOrder a ep) es).map keyE).trans x.key)
   (λA' hh=>jnc (L:=!w.params.followText "set-order") (ks:=ks) (o:=o) (t:=t) (Ao hlt) hB hh) (λb hb=>by
    rcases Ar.mp hb with rfl|hb
    ·exact .inr ⟨Af _,by rw[Az];exact Og _⟩
    ·exact .inl (Ah.mp hb)) ⟨⟨_,hI,rfl,rfl⟩,x.keep λo e=>Ac _ e⟩
 ·have hB':w.params.followText "set-order"=false:=by simpa using hB
  refine Oo (λq=>?_) (λq=>?_)
  ·refine Aa (jik es.size (List.range es.size) s (by simp) λps dr hp=>?_)
   have pl:ps.length=es.size:=by rw[hp.length_eq,List.length_range]
   unfold newTuple
   refine Aa (Oc ?_ (by
    show(ps.map fun(i:Nat)=>rawInt i).toArray.size<=sizeLine
    rw[Aj,Ad,pl]
    exact W7 x.sz))
   have x1:SX prog w (s.heap.push {cls:=.type "tuple",data:=.seq (ps.map fun(i:Nat)=>rawInt i).toArray}) a (!w.params.followText "set-order") ks o es ep t:=x.keep λo e=>Ac _ e
   refine Ox (mk (.ref s.heap.objs.size) {s with drawn:=dr,heap:=s.heap.push {cls:=.type "tuple",data:=.seq (ps.map fun(i:Nat)=>rawInt i).toArray}} (λs'=>∃T' r,s'.TypeIs (.ref (s.heap.push {cls:=.type "tuple",data:=.seq (ps.map fun(i:Nat)=>rawInt i).toArray}).objs.size) T'/\typeLookup (.type T') (Str.ofString "__next__")=pure (some r)/\Q (.ref (s.heap.push {cls:=.type "tuple",data:=.seq (ps.map fun(i:Nat)=>rawInt i).toArray}).objs.size) s') x1 ?_) (λfin s' ⟨v,e1,e2,r⟩=>⟨v,e1,by rw[e2];exact r⟩) λ_ _ q=>q
   have ht:(s.heap.push {cls:=.type "tuple",data:=.seq (ps.map fun(i:Nat)=>rawInt i).toArray}).get? s.heap.objs.size=some {cls:=.type "tuple",data:=.seq (ps.map fun(i:Nat)=>rawInt i).toArray}:=Ai _ rfl
   have hs1:(s.heap.push {cls:=.type "tuple",data:=.seq (ps.map fun(i:Nat)=>rawInt i).toArray}).objs.size=s.heap.objs.size+1:=Az ..
   have kk:∀b o,s.heap.get? b=some o->(s.heap.push {cls:=.type "tuple",data:=.seq (ps.map fun(i:Nat)=>rawInt i).toArray}).get? b=some o:=λb o e=>Ac _ e
   generalize s.heap.push {cls:=.type "tuple",data:=.seq (ps.map fun(i:Nat)=>rawInt i).toArray}=h1 at x1 ht hs1 kk
   have hI:(h1.push {cls:=.type "set_iterator",data:=.fields #[.ref s.heap.objs.size,.int (0:Nat) 0,.ref a,.int es.size 0,.int ep 0]}).get? h1.objs.size=some {cls:=.type "set_iterator",data:=.fields #[.ref s.heap.objs.size,.int (0:Nat) 0,.ref a,.int es.size 0,.int ep 0]}:=Ai _ rfl
   have hs2:(h1.push {cls:=.type "set_iterator",data:=.fields #[.ref s.heap.objs.size,.int (0:Nat) 0,.ref a,.int es.size 0,.int ep 0]}).objs.size=h1.objs.size+1:=Az ..
   refine⟨"set_iterator",_,⟨_,hI,rfl⟩,sit_next.lookup,?_⟩
   have hne:a≠h1.objs.size:=by rw[hs1];exact Ao (O4 hlt)
   have hnt:s.heap.objs.size≠h1.objs.size:=by rw[hs1];exact Ao (Og _)
   refine hQ _ _ dr [h1.objs.size,a,s.heap.objs.size] _ _ (λb o e=>Ac _ (kk b o e)) (by rw[hs1];exact Wq _) (by rw[hs2];exact Og _) ?_
    (λA' hh=>jlz (L:=!w.params.followText "set-order") (ks:=ks) (o:=o) (t:=t) (ep:=ep) hne hnt hp rfl hh) (λb hb=>?_) ⟨⟨_,hI,rfl,rfl⟩,x1.keep λo e=>Ac _ e,Ac _ ht⟩
   ·refine List.Perm.trans ?_ x.key
    have e2:es.toList.map keyE=(List.range es.size).map λp=>keyE (es.toList.getD p (0,.none)):=by
     refine List.ext_getElem? λj=>?_
     rw[Ax,Ax]
     by_cases hj:j<es.size
     ·have hj':j<es.toList.length:=by simpa using hj
      rw[List.getElem?_range hj,Am hj']
      show some (keyE es.toList[j])=some (keyE (es.toList.getD j (0,.none)))
      rw[Ak,Am hj']
      rfl
     ·rw[Of (by simpa using hj),Of (by simpa using hj)]
      rfl
    rw[e2]
    exact hp.map _
   ·rcases Ar.mp hb with rfl|hb
    ·exact .inr ⟨by rw[hs1];exact Wq _,by rw[hs2];exact Og _⟩
    ·rcases Ar.mp hb with rfl|hb
     ·exact .inl rfl
     ·rw[Ah.mp hb]
      exact .inr ⟨Af _,by rw[hs2,hs1];exact O4 (Og _)⟩
  ·have q':¬(!w.params.followText "set-order" && (!t.plain && decide (es.size>1)))=true:=q
   have h1:es.size<=1:=by
    rw[hB']at q'
    rcases x.pl with h|h
    ·omega
    ·rw[h]at q'
     simp at q'
     exact q'
   refine Aa (Ab ?_)
   have xt:SX prog w s.heap a true ks o es ep t:=by have:=x;rw[hB']at this;exact this
   refine Ox (mk (rawInt 0) s (λs'=>∃T' r,s'.TypeIs (.ref s.heap.objs.size) T'/\typeLookup (.type T') (Str.ofString "__next__")=pure (some r)/\Q (.ref s.heap.objs.size) s') x ?_) (λfin s' ⟨v,e1,e2,r⟩=>⟨v,e1,by rw[e2];exact r⟩) λ_ _ q=>q
   have hI:(s.heap.push {cls:=.type "set_iterator",data:=.fields #[rawInt 0,.int (0:Nat) 0,.ref a,.int es.size 0,.int ep 0]}).get? s.heap.objs.size=some {cls:=.type "set_iterator",data:=.fields #[rawInt 0,.int (0:Nat) 0,.ref a,.int es.size 0,.int ep 0]}:=Ai _ rfl
   refine⟨"set_iterator",_,⟨_,hI,rfl⟩,sit_next.lookup,?_⟩
   exact hQ _ _ s.drawn [s.heap.objs.size,a] _ _ (λb o e=>Ac _ e) (Af _) (by rw[Az];exact Og _) x.key
    (λA' hh=>jnb (ks:=ks) (o:=o) (ep:=ep) (Ao hlt) hB' h1 x.fits hh) (λb hb=>by
     rcases Ar.mp hb with rfl|hb
     ·exact .inr ⟨Af _,by rw[Az];exact Og _⟩
     ·exact .inl (Ah.mp hb)) ⟨⟨_,hI,rfl,rfl⟩,xt.keep λo e=>Ac _ e⟩
end
section
variable{prog:Program}{w:World}{A:Around}{E:Value->Shared->Prop}{s:Shared}
theorem jnq{r:Addr}{Q:Bool->Shared->Prop}(hT:s.TypeIs (.ref r) "set")(h:Q false s):wpAny (model prog w) A (Builtin.List.listLengthHint (.ref r)) Q E s:=by
 unfold Builtin.List.listLengthHint
 refine Aa (wpAny_specialOf hT PySem.F.slot_set_len.lookup ?_)
 generalize hid:("set.__len__":String)=id0
 wp_delta
 rw[show splitId id0=some ("set","__len__")from by subst hid;decide +kernel]
 subst hid
 refine Aa (Wb (T:="set") (b:=true) hT (by rw[W2];kernel_rfl) (Oo (λq=>absurd q (by decide)) (λ_=>?_)))
 refine Oo (λ_=>Aa (U9 hT ?_)) (λq=>absurd (by decide +kernel) q)
 exact Ab h
theorem jlg{a S:Addr}{ks:List Str}{o:Obj}{es:Array (Int×Value)}{ep:Nat}{t:SetTable}{R:Result->Shared->Prop}(x:SX prog w s.heap a (!w.params.followText "set-order") ks o es ep t)(hh:A.handled=none)(hSa:S≠a)(hS:s.heap.get? S=some {cls:=.type "list",data:=.seq #[]})
  (hR:∀(h':Heap)(tk:Nat)(dr:Drawn)(acc:Array Value)(c:Nat)(ord:List Str),(∀b o,b≠S->s.heap.get? b=some o->h'.get? b=some o)->h'.get? S=some {cls:=.type "list",dict:=none,data:=.seq acc c,slots:=#[]}->ord.Perm ks ->
   ItemsOf (λi v=>∃tk,v=.str (ord.getD i ⟨#[]⟩) tk) acc ord.length->R (.ok (.ret (.ref S))) {s with heap:=h',toks:=tk,drawn:=dr}) :
  wpAny (model prog w) A.in1 (Builtin.List.listExtendWith (.ref S) (.ref a) (.ref S))
   (λfin s'=>match fin with|.done f=>R (.ok f) s'|.again c'=>c'.quiet=true/\codeAny (model prog w) A c' R s') (λe s'=>R (.error e) s') s:=by
 have hT:s.TypeIs (.ref a) "set":=⟨o,x.at_,x.ex.1⟩
 have hlt:a<s.heap.objs.size:=Al x.at_
 have hSl:S<s.heap.objs.size:=Al hS
 have hks:ks.length<=sizeLine:=by rw[<-x.len];exact W7 x.sz
 unfold Builtin.List.listExtendWith
 refine Aa (U9 (T:="set") hT ?_)
 have e1:Builtin.List.listSameRef (.ref S) (.ref a)=false:=by simp[Builtin.List.listSameRef,hSa]
 simp only[e1,show(Value.type "set" == Value.type "list")=false by decide,show(Value.type "set" == Value.type "tuple")=false by decide,Bool.or_false,Iw,O6]
 refine Aa (jnr x hlt λI h1 dr fp ord St k1 hI hI2 hp W hfp st=>?_)
 have x1:=x.keep λo e=>k1 a o e
 have hT1:({s with heap:=h1,drawn:=dr}:Shared).TypeIs (.ref a) "set":=⟨o,x1.at_,x.ex.1⟩
 have hS1:=k1 S _ hS
 have hSf:S∉fp:=λq=>by
  rcases hfp S q with q|q
  ·exact hSa q
  ·exact absurd hSl (Nat.not_lt.mpr q.1)
 have key:∀(h:Heap)(c1 tk:Nat),St 0 h->(∀b o,b≠S->h1.get? b=some o->h.get? b=some o)->h.get? S=some {cls:=.type "list",data:=.seq #[] c1} ->
   codeAny (model prog w) A (.builtin "list.extend.loop" ⟨[.ref S,.ref I,.ref S],[]⟩) R {s with heap:=h,toks:=tk,drawn:=dr}:=by
  intro h c1 tk st' kk hS'
  refine codeAny_extend_loopS (W A.in1 hh).toS (by rw[hp.length_eq];exact hks) S hSf (.ref S) ord.length 0 _ #[] c1 rfl (Ou _) st' hS' (ItemsOf.nil _) λs' acc c' hm hS2 hacc=>?_
  rw[Moved.eq_with hm]
  refine hR s'.heap s'.toks dr acc c' ord (λb o hb e=>hm.heap b o (λq=>?_) (kk b o hb (k1 b o e))) hS2 hp hacc
  rcases Ar.mp q with q|q
  ·exact hb q
  ·exact absurd (Al e) (Nat.not_lt.mpr (by rw[Ah.mp q];exact hI))
 refine Aa (On (jnq hT1 ?_))
 refine Oo (λ_=>?_) (λ_=>Ab ⟨Ua PySem.F.plain_extend_loop _,key _ 0 _ st (λb o _ e=>e) hS1⟩)
 refine Aa (U6 (Aa (show wpAny _ _ (updateSeq S (·.push .none) >>= λ_=>updateSeq S (·.pop)) _ _ _ from ?_)))
 refine Aa (Ws hS1 rfl ?_)
 have hS2:=Oe (Obj.mapSeq (·.push Value.none)) hS1 rfl
 refine Ws (hz:=by seq_fits) hS2 rfl ?_
 have hS3:=Oe (Obj.mapSeq (·.pop)) hS2 rfl
 have oth:∀b o,b≠S->h1.get? b=some o->((h1.update S (Obj.mapSeq (·.push Value.none))).update S (Obj.mapSeq (·.pop))).get? b=some o:=λb o hb e=>(Iu _ _ (Up hb)).trans ((Iu _ _ (Up hb)).trans e)
 exact Ab ⟨Ua PySem.F.plain_extend_loop _,key _ _ _ ((W A.in1 hh).frame 0 _ _ st λb hb o e=>oth b o (λq=>hSf (q▸hb)) e) oth hS3⟩
theorem jjq{a:Addr}{ks:List Str}{o:Obj}{es:Array (Int×Value)}{ep:Nat}{t:SetTable}{R:List Value->Shared->Prop}(x:SX prog w s.heap a (!w.params.followText "set-order") ks o es ep t)(hh:A.handled=none)
  (h:∀(h':Heap)(tk:Nat)(dr:Drawn)(vs:List Value)(ord:List Str),(∀b o,s.heap.get? b=some o->h'.get? b=some o)->s.heap.objs.size<=h'.objs.size->ord.Perm ks->StrsAre vs ord->R vs {s with heap:=h',toks:=tk,drawn:=dr}) :
  wpAny (model prog w) A (collect (.ref a)) R E s:=by
 have hlt:a<s.heap.objs.size:=Al x.at_
 have areS:∀(ord:List Str)(vs:List Value),vs.length=ord.length->(∀(j:Nat)(v:Value),vs[j]?=some v->∃tk,v=.str (ord.getD j ⟨#[]⟩) tk)->StrsAre vs ord:=by
  intro ord
  induction ord with
  |nil=>intro vs hl _;rw[Ud.mp hl];exact .nil
  |cons k ord ih =>
   intro vs hl hv
   cases vs with
   |nil=>cases hl
   |cons v vs =>
    obtain⟨tk,rfl⟩:=hv 0 v rfl
    exact .cons _ _ (ih vs (by simpa using hl) λj u hu=>hv (j+1) u hu)
 unfold collect
 refine Aa (wpAny_runValue (Ot entry_proto_collect' ?_))
 rw[Od PySem.F.plain_proto_collect _]
 refine show wpAny _ A.in1 (newList [] >>= λl=>again (.builtin "list.__iadd__" ⟨[l,.ref a],[]⟩)) _ _ s from ?_
 refine Aa (Oc (Ab ⟨Ua PySem.F.plain_list_iadd _,Ot entry_list_iadd' ?_⟩))
 rw[Od PySem.F.plain_list_iadd _]
 have hS:(s.heap.push {cls:=.type "list",data:=.seq ([]:List Value).toArray}).get? s.heap.objs.size=some {cls:=.type "list",data:=.seq #[]}:=Ai _ rfl
 refine show wpAny _ A.in1 (Builtin.List.listExtendWith (.ref s.heap.objs.size) (.ref a) (.ref s.heap.objs.size)) _ _ _ from ?_
 have key:=jlg (A:=A) (s:={s with heap:=s.heap.push {cls:=.type "list",data:=.seq ([]:List Value).toArray}}) (S:=s.heap.objs.size)
  (R:=fun(q:Result) (s':Shared)=>∃(h':Heap)(tk:Nat)(dr:Drawn)(acc:Array Value)(c:Nat)(ord:List Str),q=.ok (.ret (.ref s.heap.objs.size))/\s'={s with heap:=h',toks:=tk,drawn:=dr} /\
   (∀b o,s.heap.get? b=some o->h'.get? b=some o)/\h'.get? s.heap.objs.size=some {cls:=.type "list",dict:=none,data:=.seq acc c,slots:=#[]}/\ord.Perm ks/\StrsAre acc.toList ord)
  (x.keep λo e=>Ac _ e) hh (Uk hlt) hS
  (λh' tk dr acc c ord hk hS' hp hacc=>⟨h',tk,dr,acc,c,ord,rfl,rfl,λb o e=>hk b o (Ao (Al e)) (Ac _ e),hS',hp,areS ord acc.toList (by rw[Array.length_toList];exact hacc.1) λj v hv=>hacc.2 j v (by rw[<-U3];exact hv)⟩)
 refine Ox key (λfin s' y=>?_) λe s' y=>?_
 ·cases fin with
  |done f =>
   obtain⟨h',tk,dr,acc,c,ord,e,rfl,hk,hS',hp,hst⟩:=y
   cases e
   exact Aa (wpAny_load hS' (Ab (h h' tk dr _ ord hk (Wt (Al hS')) hp hst)))
  |again c1 =>
   refine⟨y.1,Wk y.2 λq s2 y2=>?_⟩
   obtain⟨h',tk,dr,acc,c,ord,rfl,rfl,hk,hS',hp,hst⟩:=y2
   exact Aa (wpAny_load hS' (Ab (h h' tk dr _ ord hk (Wt (Al hS')) hp hst)))
 ·obtain⟨_,_,_,_,_,_,q,_⟩:=y
  cases q
theorem jlo{a:Addr}{ks:List Str}{o:Obj}{es:Array (Int×Value)}{ep:Nat}{t:SetTable}{Q:Value->Shared->Prop}(x:SX prog w s.heap a (!w.params.followText "set-order") ks o es ep t)(hh:A.handled=none)(h64:ks.length<64)
  (h:∀(D:Addr)(h':Heap)(tk:Nat)(dr:Drawn)(vs:List Value)(ss:List Str)(c:Nat),(∀b o,s.heap.get? b=some o->h'.get? b=some o)->s.heap.objs.size<=D->h'.get? D=some (seqObj "list" vs.toArray c)->StrsAre vs ss->ss.Perm ks->sortedS ss=true ->
   Q (.ref D) {s with heap:=h',toks:=tk,drawn:=dr}) :
  wpAny (model prog w) A (call (.builtin "sorted") [.ref a]) Q E s:=by
 refine Calls.call_function_entry kind_sorted plain_sorted entry_sorted (args_sorted1 _) ?_
 unfold Builtin.«sorted»
 refine Aa (m:=checkCount "sorted" 1 1 _) (Ab ?_)
 refine Aa (jjq (A:=A.in1) x hh λh1 tk dr vs ord k1 z1 hp hst=>?_)
 have hl:vs.length=ord.length:=hst.length
 have ho:ord.length<64:=by rw[hp.length_eq];exact h64
 refine Aa (wpAny_newList ?_ (by rw[hl];have:=W9;omega))
 have hD:(h1.push (seqObj "list" vs.toArray 0)).get? h1.objs.size=some (seqObj "list" vs.toArray 0):=Ai _ rfl
 refine Aa (On (Op slot_list_sort ⟨_,hD,rfl⟩ entry_list_sort (list_sort_treeK strKind_oneLt hD hst.keysOf (λv1 v2 rest e=>keyKind_strs (by rw[<-e];exact hst)) (by omega) λst' a1 a2=>⟨_,rfl,?_⟩) (args_list_sort _)))
 obtain⟨ss,q1,q2,q3⟩:=sorted_out_str hst a1 a2
 obtain⟨c,hc⟩:=sortedHeap_at (out:=(arrOf st').map (·.2)) hD
 have hlt1:∀b o,s.heap.get? b=some o->b<h1.objs.size:=λb o e=>Al (k1 b o e)
 refine Ab ⟨_,rfl,h h1.objs.size _ tk dr _ ss c (λb o e=>?_) z1 (by rw[Array.toArray_toList];exact hc) q1 (q2.trans hp) q3⟩
 rw[sortedHeap_old (Ao (hlt1 b o e)) (by rw[Az];exact O4 (hlt1 b o e))]
 exact Ac _ (k1 b o e)
end
theorem jho:isSubtype (.type "tuple") (.type "set")=pure false:=by rw[W2];kernel_rfl
theorem jjl:isSubtype (.type "tuple") (.type "frozenset")=pure false:=by rw[W2];kernel_rfl
section
variable{X:Cx}{pins:List (Addr×Obj)}{σ:L2.St}{H:Hp}{s:Shared}
theorem Inv.dr(I:Inv X pins σ H s)(dr:Drawn):Inv X pins σ H {s with drawn:=dr}:=⟨I.ok,I.os,I.bare,I.base,I.loc,I.cell,I.free,I.freeC,I.pin,I.hok,I.len⟩
theorem jjk:∀{its:List Value}{ss:List Str},StrsAre its ss->∀(i:Nat)(v:Value),its[i]?=some v->∃t,v=.str (ss.getD i ⟨#[]⟩) t
 |_,_,.nil,i,v,h=>by simp at h
 |_,_,.cons x t r,0,v,h=>by simp at h;exact⟨t,h.symm⟩
 |_,_,.cons x t r,i+1,v,h=>jjk r i v (by simpa using h)
def jde:List V->Hp->VK->Prop:=λvs H Q=>match vs with
 |[.ref l]=>∃ss:List Str,jc2 (H l)=some (ss.map V.str)/\ss.length<64/\∀(p:Addr)(ss':List Str),H p=none->sortedS ss'=true->ss'.Nodup->(∀x,x∈ss'↔x∈ss)->Q (.ref p) (upd H p (.lst (ss'.map V.str)))
 |_=>False
theorem jd4(l:Addr)(H:Hp)(Q:VK):jde [.ref l] H Q=(∃ss:List Str,jc2 (H l)=some (ss.map V.str)/\ss.length<64/\∀(p:Addr)(ss':List Str),H p=none->sortedS ss'=true->ss'.Nodup->(∀x,x∈ss'↔x∈ss)->Q (.ref p) (upd H p (.lst (ss'.map V.str)))):=rfl
def jdm(ta:TE):TE:=tCB jde (jev ta tNil)
theorem jpn(ss:List Str)(x:Str):x∈fmS (λi=>ss.getD i ⟨#[]⟩) ss.length↔x∈ss:=by
 rw[jj6]
 constructor
 ·rintro⟨j,hj,e⟩
  rw[Ak,Am hj]at e
  exact e▸Ov hj
 ·intro h
  obtain⟨j,hj,e⟩:=List.getElem_of_mem h
  exact⟨j,hj,by rw[Ak,Am hj];exact e⟩
theorem jp1{l:Addr}{ss:List Str}{Q:Value->Shared->Prop}(I:Inv X pins σ H s)(hh:X.A.handled=none)(e:jc2 (H l)=some (ss.map V.str))(hl:ss.length<64)
  (h:∀(h':Heap)(tk:Nat),SXO X.prog X.w h' s.heap.objs.size (!X.w.params.followText "set-order") (fmS (λi=>ss.getD i ⟨#[]⟩) ss.length)->(∀b o,b<s.heap.objs.size->s.heap.get? b=some o->h'.get? b=some o)->Q (.ref s.heap.objs.size) {s with heap:=h',toks:=tk}) :
  wpAny (model X.prog X.w) X.A (call (.type "set") [.ref l]) Q X.xe s:=by
 cases eo:H l with
 |none=>rw[eo]at e;cases e
 |some ob =>
  rw[eo]at e
  cases ob with
  |lst xs =>
   have ex:xs=ss.map V.str:=by simpa[jc2]using e
   subst ex
   obtain⟨its,rr,pl,hz⟩:=I.list (SqL.of eo)
   have hli:=rr.length
   rw[Ad]at hli
   have hst:=jdl rr
   obtain⟨ol,g1,g2,n,g3⟩:=pl.isList
   have hsz:its.toArray.size=ss.length:=by rw[Aj];exact hli.symm
   refine jbm (T:="list") (IT:="list_iterator") (items:=its.toArray) (ss:=ss) (St:=λJ i h=>h.IsListIter J l i/\h.IsList l its.toArray) hh g1 g2 PySem.F.sub_list_set PySem.F.sub_list_frozenset (by decide) (λA' E' s' Q' e' q=>O3 ⟨ol,e',g2,n,g3⟩ q)
    (λA' J hA hne=>Ys hA J l hne its.toArray) (λJ h e1 e2=>⟨⟨_,e2,rfl,rfl⟩,ol,e1,g2,n,g3⟩) (λi v hv=>jjk hst i v (by simpa using hv)) (by rw[hsz];unfold scanBound;omega) ?_
   rw[hsz]
   exact h
  |tup xs =>
   have ex:xs=ss.map V.str:=by simpa[jc2]using e
   subst ex
   obtain⟨its,rr,pl,hz⟩:=I.tuple (SqT.of eo)
   have hli:=rr.length
   rw[Ad]at hli
   have hst:=jdl rr
   obtain⟨ol,g1,g2,n,g3⟩:=pl
   have hsz:its.toArray.size=ss.length:=by rw[Aj];exact hli.symm
   refine jbm (T:="tuple") (IT:="tuple_iterator") (items:=its.toArray) (ss:=ss) (St:=λJ i h=>h.IsTupleIter J l i/\h.IsTuple l its.toArray) hh g1 g2 jho jjl (by decide) (λA' E' s' Q' e' q=>Wu ⟨ol,e',g2,n,g3⟩ q)
    (λA' J hA hne=>Walks.tuple hA J l hne its.toArray) (λJ h e1 e2=>⟨⟨_,e2,rfl,rfl⟩,ol,e1,g2,n,g3⟩) (λi v hv=>jjk hst i v (by simpa using hv)) (by rw[hsz];unfold scanBound;omega) ?_
   rw[hsz]
   exact h
  |_=>simp[jc2]at e
theorem pe_sortedSet{a:Expr}{ta:TE}{p1 p2 q1 q2:Pos}(hc:X.calm=true)(hg:Gl X "sorted")(hm:X.mg "sorted"=none)(hg2:Gl X "set")(hm2:X.mg "set"=none)(ha:PE X a ta)
  (hs:starEach [(.Call (.Name "set" p2) [a] [] q2)] X.env=[(false,eval (.Call (.Name "set" p2) [a] [] q2) X.env)]:=by rfl) (hs2:starEach [a] X.env=[(false,eval a X.env)]:=by rfl) :
  PE X (.Call (.Name "sorted" p1) [.Call (.Name "set" p2) [a] [] q2] [] q1) (jdm ta):=by
 intro pins s σ H Q I h
 refine Uu (jdj I hg hm bt_sorted (PyProof.Rows.callWith_builtin1 ?_ hs rfl))
 rw[hs]
 refine show wpAny _ _ (spliced ((false,eval (.Call (.Name "set" p2) [a] [] q2) X.env)::[])) _ _ s from Y2 ?_
 have hA:PA X [a] (jev ta tNil):=jb4 ha jce hs2
 refine Uu (jdj I hg2 hm2 bt_set (Uf (thn (hA q2 pins s σ H (λvs H1=>jde vs H1 Q) I h) λus s1 ⟨vs,H1,I1,r1,q1⟩=>?_) hs2 rfl))
 replace q1:jde vs H1 Q:=q1
 unfold jde at q1
 split at q1
 ·rename_i l
  obtain⟨ss,e,hl,q⟩:=q1
  obtain⟨u,rfl,ru⟩:=jc6 r1
  cases ru
  have hh:=I1.ok.hd hc
  refine jp1 I1 hh e hl λh' tk hS hk=>Calls.spliced_nil ?_
  obtain⟨o,es,ep,t,x⟩:=hS
  have fl:=jim (λi=>ss.getD i ⟨#[]⟩) ss.length
  have I2:Inv X pins σ H1 {s1 with heap:=h',toks:=tk}:=I1.kept λb o e=>hk b o (Al e) e
  refine jlo (s:={s1 with heap:=h',toks:=tk}) x hh (by omega) λD h2 tk2 dr vs2 ss2 c k2 hD e2 st2 p2 srt=>?_
  have hsl:ss2.length<64:=by rw[p2.length_eq];omega
  have hvl:vs2.length=ss2.length:=st2.length
  have hln:sizeLine=16777216:=W9
  have I3:Inv X pins σ (upd H1 D (.lst (ss2.map V.str))) { ({s1 with heap:=h',toks:=tk}:Shared)with heap:=h2,toks:=tk2} :=
   I2.laid (λb o e=>k2 b o e) hD ⟨by rw[Ad];omega,vs2,c,jeo st2,e2⟩
  refine⟨.ref D,_,I3.dr dr,rfl,q D ss2 (I2.hok.fresh hD) srt (p2.nodup_iff.mpr x.nd) λy=>?_⟩
  rw[p2.mem_iff]
  exact jpn ss y
 ·exact q1.elim
theorem jad{a:Expr}{ta:TE}{p1 p2 q1 q2:Pos}(hc:X.calm=true)(hg:Gl X "sorted")(hm:X.mg "sorted"=none)(hg2:Gl X "set")(hm2:X.mg "set"=none)(ha:QE X a ta)
  (hs:starEach [(.Call (.Name "set" p2) [a] [] q2)] X.env=[(false,eval (.Call (.Name "set" p2) [a] [] q2) X.env)]:=by rfl) (hs2:starEach [a] X.env=[(false,eval a X.env)]:=by rfl) :
  QE X (.Call (.Name "sorted" p1) [.Call (.Name "set" p2) [a] [] q2] [] q1) (jdm ta):=⟨pe_sortedSet hc hg hm hg2 hm2 ha.h hs hs2⟩
end
def leS(a b:Str):Prop:=¬b.cps.toList<a.cps.toList
theorem jmm{a b c:Str}(h1:leS a b)(h2:leS b c):leS a c:=λq=>by
 have e1:a.cps.toList<=b.cps.toList:=Y1.mp h1
 have e2:b.cps.toList<=c.cps.toList:=Y1.mp h2
 exact(Y1.mpr (List.le_trans e1 e2)) q
theorem jnu{a b:Str}(h1:leS a b)(h2:leS b a):a=b:=by
 have e:a.cps.toList=b.cps.toList:=List.le_antisymm (Y1.mp h1) (Y1.mp h2)
 obtain⟨x⟩:=a
 obtain⟨y⟩:=b
 have:x=y:=Array.toList_inj.mp e
 rw[this]
theorem jhd:∀(p:Str)(l:List Str),risingS p l=true->(p::l).Pairwise leS
 |p,[],_=>by simp
 |p,x::r,h=>by
  simp only[risingS,Iz,Bool.not_eq_true',ltCps_eq,decide_eq_false_iff_not]at h
  have ih:=jhd x r h.2
  refine Wz.mpr ⟨λy hy=>?_,ih⟩
  rcases Ar.mp hy with rfl|hy
  ·exact h.1
  ·exact jmm h.1 ((Wz.mp ih).1 y hy)
theorem jhh:∀{l:List Str},sortedS l=true->l.Pairwise leS
 |[],_=>.nil
 |p::l,h=>jhd p l h
theorem jln:∀{l m:List Str},sortedS l=true->sortedS m=true->l.Nodup->m.Nodup->(∀x,x∈l↔x∈m)->l=m:=by
 have gen:∀(l m:List Str),l.Pairwise leS->m.Pairwise leS->l.Nodup->m.Nodup->(∀x,x∈l↔x∈m)->l=m:=by
  intro l
  induction l with
  |nil =>
   intro m _ _ _ _ h
   cases m with
   |nil=>rfl
   |cons y m=>exact absurd ((h y).mpr (.head _)) (by simp)
  |cons a l ih =>
   intro m pl pm nl nm h
   cases m with
   |nil=>exact absurd ((h a).mp (.head _)) (by simp)
   |cons b m =>
    obtain⟨pa,pl'⟩:=Wz.mp pl
    obtain⟨pb,pm'⟩:=Wz.mp pm
    obtain⟨na,nl'⟩:=Uh.mp nl
    obtain⟨nb,nm'⟩:=Uh.mp nm
    have hab:a=b:=by
     rcases Ar.mp ((h a).mp (.head _))with e|e
     ·exact e
     ·rcases Ar.mp ((h b).mpr (.head _))with e'|e'
      ·exact e'.symm
      ·exact jnu (pa b e') (pb a e)
    subst hab
    rw[ih m pl' pm' nl' nm' λx=>?_]
    constructor
    ·intro hx
     rcases Ar.mp ((h x).mp (.tail _ hx))with e|e
     ·exact absurd (e▸hx) na
     ·exact e
    ·intro hx
     rcases Ar.mp ((h x).mpr (.tail _ hx))with e|e
     ·exact absurd (e▸hx) nb
     ·exact e
 intro l m h1 h2
 exact gen l m (jhh h1) (jhh h2)
section
variable{N:Nat}{r:Array Nat}(hN:0<N)(hr:∀x∈r.toList,x<N)
include hN hr
omit hN hr in
end
def mxF(val:Nat->Int)(M:Int)(j:Nat):Nat->Int
 |0=>M
 |k+1=>mxF val (if val j>M then val j else M) (j+1) k
def maxL:Int->List Int->Int
 |M,[]=>M
 |M,x::l=>maxL (if x>M then x else M) l
section
variable{prog:Program}{w:World}{A:Around}{E:Value->Shared->Prop}{R:Result->Shared->Prop}{I:Addr}{fp wr:List Addr}{n:Nat}{P:Nat->Value->Prop}{St:Nat->Heap->Prop}{s:Shared}
theorem jph{id:String}{b:Builtin}{args:List Value}{kw:List (Str×Value)}{Q:Value->Shared->Prop}(hk:builtinKind id=none)(hp:plainId id=true)(hb:entryFor table id=some b)(ha:argsOk id ⟨args,kw⟩)
  (hc:wpAny (model prog w) A.in1 (b ⟨args,kw⟩) (λfin s'=>match fin with
   |.done f=>(match(Except.ok f:Result)with|.ok (.ret v)=>Q v s'|.ok _=>False|.error e=>E e s')
   |.again c'=>c'.quiet=true/\codeAny (model prog w) A c' (λr s'=>match r with|.ok (.ret v)=>Q v s'|.ok _=>False|.error e=>E e s') s') E s):wpAny (model prog w) A (call (.builtin id) args kw) Q E s:=by
 refine wpAny_call (codeAny_call_builtin hp hb ?_)
 simp only[checkBuiltinCall,hk]
 cases hsig:Manifest.signature? id with
 |none=>exact Ab hc
 |some sig =>
  have ha':Bind.checkArgs id sig ⟨args,kw⟩=pure ():=by simpa only[argsOk,hsig]using ha
  simp only[ha']
  exact Ab hc
theorem jmp{kw:List (Str×Value)}(W:Walks prog w A.in1 I fp wr n P St)(val:Nat->Int)(hval:∀i v,P i v->∃t,v=.int (val i) t)(S:Addr)(hSf:S∉fp) :
  ∀(k j:Nat)(s:Shared)(M:Int)(tm:Tok)(c:Nat),n-j=k->j<=n->St j s.heap->s.heap.get? S=some {cls:=.type "list",dict:=none,data:=.seq #[.int M tm,.int M tm] c,slots:=#[]} ->
   (∀(h':Heap)(tk:Nat)(t:Tok),(∀b o,b∉S::wr->s.heap.get? b=some o->h'.get? b=some o)->R (.ok (.ret (.int (mxF val M j k) t))) {s with heap:=h',toks:=tk}) ->
   codeAny (model prog w) A (.builtin "max.loop" ⟨[.ref I,.none,.ref S],kw⟩) R s:=by
 have hSw:S∉wr:=λh=>hSf (W.sub _ h)
 have nm:(toString "max"++toString ".loop":String)="max.loop":=by decide
 have nS:∀{b:Addr},b∉S::wr->S≠b:=λhb e=>hb (e▸Oa ..)
 have nW:∀{b:Addr},b∉S::wr->b∉wr:=λhb e=>hb (Im _ e)
 intro k
 induction k with
 |zero =>
  intro j s M tm c hk hj st hS hR
  have hjn:j=n:=by omega
  subst hjn
  refine Ot Wj ?_
  rw[Od Ow _]
  refine show wpAny _ A.in1 (seqItems? (.ref S) >>= _) _ _ s from Aa (Om hS rfl ?_)
  refine show wpAny _ A.in1 (tryCatch (pyNext (.ref I)) _ >>= _) _ _ s from Aa (Wm (W.done s _ _ st λh1 tk k1=>?_))
  have hS1:=k1 S _ hSw hS
  refine show wpAny _ A.in1 (updateSeq S (λ_=>#[]) >>= _) _ _ _ from Aa (Ws hS1 rfl (Aa (Wr (Ab ?_))))
  exact hR _ tk tm λb o hb e=>(Iu _ _ (nS hb)).trans (k1 b o (nW hb) e)
 |succ k ih =>
  intro j s M tm c hk hj st hS hR
  have hlt:j<n:=by omega
  refine Ot Wj ?_
  rw[Od Ow _]
  refine show wpAny _ A.in1 (seqItems? (.ref S) >>= _) _ _ s from Aa (Om hS rfl ?_)
  refine show wpAny _ A.in1 (tryCatch (pyNext (.ref I)) _ >>= _) _ _ s from Aa (Wm (W.item j s _ _ hlt st λv h1 tk hP st1 k1=>?_))
  obtain⟨tv,rfl⟩:=hval j v hP
  have hS1:=k1 S _ hSw hS
  refine show wpAny _ A.in1 (tryCatch (holding [Value.int (val j) tv,.int (val j) tv] (richCompare .Gt (.int (val j) tv) (.int M tm) >>= _)) _ >>= _) _ _ _ from ?_
  refine Aa (Wm (On (Aa (show wpAny _ A.in1 (compareOp .Gt (.int (val j) tv) (.int M tm)) _ _ _ from PyProof.Rows.gt_int ?_))))
  refine Aa (On (Oi (Aa (Wr (Ab ?_)))))
  by_cases hb:val j>M
  ·rw[Ol hb,Ap rfl]
   refine Aa (Ws hS1 rfl (Aa (Wr ?_)))
   rw[nm]
   refine Ab ⟨Ua Ow _,ih (j+1) _ (val j) tv _ (by omega) hlt (W.frame _ _ _ st1 λb hbf o e=>(Iu _ _ (λq:S=b=>hSf (q▸hbf))).trans e) (Oe _ hS1 rfl) λh2 tk2 t k2=>?_⟩
   have:=hR h2 tk2 t λb o hb e=>k2 b o hb ((Iu _ _ (nS hb)).trans (k1 b o (nW hb) e))
   rwa[mxF,Ap hb]at this
  ·rw[Ir hb,At (by decide)]
   refine Aa (Wr ?_)
   rw[nm]
   refine Ab ⟨Ua Ow _,ih (j+1) _ M tm c (by omega) hlt st1 hS1 λh2 tk2 t k2=>?_⟩
   have:=hR h2 tk2 t λb o hb e=>k2 b o hb (k1 b o (nW hb) e)
   rwa[mxF,At hb]at this
theorem jir:∀(ns:List Int)(M:Int)(j:Nat)(all:List Int),all.drop j=ns->mxF (λi=>all.getD i 0) M j ns.length=maxL M ns
 |[],M,j,all,_=>rfl
 |x::r,M,j,all,h=>by
  have hx:all.getD j 0=x:=by
   have:=Ob (λl:List Int=>l[0]?) h
   simp only[List.getElem?_drop,Nat.add_zero,List.getElem?_cons_zero]at this
   rw[Ak,this]
   rfl
  have hr:all.drop (j+1)=r:=by
   rw[<-List.drop_drop,h]
   rfl
  rw[List.length_cons,mxF,maxL,hx]
  exact jir r _ (j+1) all hr
theorem jny{kw:List (Str×Value)}{l:Addr}{its:List Value}{x:Int}{r:List Int}(hh:A.handled=none)(hl:s.heap.IsList l its.toArray)(hi:∀(i:Nat) (v:Value),its[i]?=some v->∃t,v=.int ((x::r).getD i 0) t)(hlen:its.length=(x::r).length)
  (S J:Addr) (hlJ:l≠J) (hlS:l≠S) (hJS:J≠S) (hJ:s.heap.get? J=some {cls:=.type "list_iterator",data:=.fields #[.ref l,.int 0 0]}) (hS:s.heap.get? S=some {cls:=.type "list",data:=.seq #[]})
  (hR:∀(h':Heap)(tk:Nat)(t:Tok),(∀b o,b≠S->b≠J->s.heap.get? b=some o->h'.get? b=some o)->R (.ok (.ret (.int (maxL x r) t))) {s with heap:=h',toks:=tk}) :
  codeAny (model prog w) A (.builtin "max.loop" ⟨[.ref J,.none,.ref S],kw⟩) R s:=by
 have W:=Ys (prog:=prog) (w:=w) (A:=A.in1) hh J l hlJ its.toArray
 have nm:(toString "max"++toString ".loop":String)="max.loop":=by decide
 have hSf:S∉[J,l]:=by simp[hJS.symm,hlS.symm]
 have hSw:S∉[J]:=by simp[hJS.symm]
 have hn:its.toArray.size=r.length+1:=by rw[Aj,hlen];rfl
 refine Ot Wj ?_
 rw[Od Ow _]
 refine show wpAny _ A.in1 (seqItems? (.ref S) >>= _) _ _ s from Aa (Om hS rfl ?_)
 refine show wpAny _ A.in1 (tryCatch (pyNext (.ref J)) _ >>= _) _ _ s from Aa (Wm (W.item 0 s _ _ (by omega) ⟨⟨_,hJ,rfl,rfl⟩,hl⟩ λv h1 tk hP st1 k1=>?_))
 obtain⟨tv,rfl⟩:=hi 0 v (by simpa using hP)
 have hS1:=k1 S _ hSw hS
 refine show wpAny _ A.in1 (updateSeq S (λ_=>#[_,_]) >>= _) _ _ _ from Aa (Ws hS1 rfl ?_)
 rw[nm]
 refine Ab ⟨Ua Ow _,jmp W (λi=>(x::r).getD i 0) (λi v h=>hi i v (by simpa using h)) S hSf r.length 1 _ x tv _ (by omega) (by omega) ?_ (Oe _ hS1 rfl) λh2 tk2 t k2=>?_⟩
 ·exact W.frame _ _ _ st1 λb hb o e=>(Iu _ _ (λq:S=b=>hSf (q▸hb))).trans e
 ·have:=hR h2 tk2 t λb o hb hb2 e=>k2 b o (by simp[hb,hb2]) ((Iu _ _ (Up hb)).trans (k1 b o (by simp[hb2]) e))
  rwa[<-jir r x 1 (x::r) rfl]at this
theorem jnx{kw:List (Str×Value)}{dv:Option Value}{l:Addr}{its:List Value}{ns:List Int}{Q:Value->Shared->Prop}(hh:A.handled=none)(hl:s.heap.IsList l its.toArray)(hi:∀(i:Nat) (v:Value),its[i]?=some v->∃t,v=.int (ns.getD i 0) t)(hlen:its.length=ns.length)
  (ha:argsOk "max" ⟨[.ref l],kw⟩) (hbind:Builtin.Builtins.bindParams "max" ["key","default"] 0 ⟨[],kw⟩=pure [none,dv]) (hdv:(dv.toList.map λd=>(("default":Str),d))=kw) (hne:ns=[]->dv≠none)
  (h:∀(h':Heap)(tk:Nat)(v:Value),(∀b o,s.heap.get? b=some o->h'.get? b=some o)->(match ns with|[]=>dv=some v|x::r=>∃t,v=.int (maxL x r) t)->Q v {s with heap:=h',toks:=tk}) :
  wpAny (model prog w) A (call (.builtin "max") [.ref l] kw) Q E s:=by
 have nm:(toString "max"++toString ".loop":String)="max.loop":=by decide
 have hlt:l<s.heap.objs.size:=let⟨_,g,_⟩:=hl;Al g
 refine jph PySem.F.kind_max PySem.F.plain_max PySem.F.entry_max ha ?_
 refine show wpAny _ A.in1 (Builtin.Builtins.bindParams "max" ["key","default"] 0 ⟨[],kw⟩ >>= _) _ _ s from Aa (wpAny_of_eq hbind (Aa (Ab ?_)))
 refine Aa (O3 hl (Aa (Oc ?_)))
 rw[nm]
 have hJ:((s.heap.push {cls:=.type "list_iterator",data:=.fields #[.ref l,.int 0 0]}).push {cls:=.type "list",data:=.seq ([]:List Value).toArray}).get? s.heap.objs.size=some {cls:=.type "list_iterator",data:=.fields #[.ref l,.int 0 0]}:=Ac _ (Ai _ rfl)
 have hS:((s.heap.push {cls:=.type "list_iterator",data:=.fields #[.ref l,.int 0 0]}).push {cls:=.type "list",data:=.seq ([]:List Value).toArray}).get? (s.heap.push {cls:=.type "list_iterator",data:=.fields #[.ref l,.int 0 0]}).objs.size=some {cls:=.type "list",data:=.seq #[]}:=Ai _ rfl
 have hz:(s.heap.push {cls:=.type "list_iterator",data:=.fields #[.ref l,.int 0 0]}).objs.size=s.heap.objs.size+1:=Az ..
 have kk:∀b o,s.heap.get? b=some o->((s.heap.push {cls:=.type "list_iterator",data:=.fields #[.ref l,.int 0 0]}).push {cls:=.type "list",data:=.seq ([]:List Value).toArray}).get? b=some o:=λb o e=>Ac _ (Ac _ e)
 have hl2:((s.heap.push {cls:=.type "list_iterator",data:=.fields #[.ref l,.int 0 0]}).push {cls:=.type "list",data:=.seq ([]:List Value).toArray}).IsList l its.toArray:=let⟨o,g,c,d⟩:=hl;⟨o,kk l o g,c,d⟩
 generalize(s.heap.push {cls:=.type "list_iterator",data:=.fields #[.ref l,.int 0 0]}).push {cls:=.type "list",data:=.seq ([]:List Value).toArray}=h1 at hJ hS kk hl2
 rw[hz]at hS⊢
 have hlJ:l≠s.heap.objs.size:=Ao hlt
 have hlS:l≠s.heap.objs.size+1:=Ao (O4 hlt)
 have hJS:s.heap.objs.size≠s.heap.objs.size+1:=Ao (Og _)
 refine Ab ⟨Ua Ow _,?_⟩
 have old:∀b o,s.heap.get? b=some o->b≠s.heap.objs.size+1/\b≠s.heap.objs.size:=λb o e=>⟨Ao (O4 (Al e)),Ao (Al e)⟩
 cases ns with
 |cons x r=>exact jny (s:={s with heap:=h1}) hh hl2 hi hlen _ _ hlJ hlS hJS hJ hS λh' tk t k=>h h' tk _ (λb o e=>k b o (old b o e).1 (old b o e).2 (kk b o e)) ⟨t,rfl⟩
 |nil =>
  obtain⟨d,rfl⟩:∃d,dv=some d:=by
   cases dv with
   |none=>exact absurd rfl (hne rfl)
   |some d=>exact⟨d,rfl⟩
  have W:=Ys (prog:=prog) (w:=w) (A:=A.in1) hh s.heap.objs.size l hlJ its.toArray
  have hn:its.toArray.size=0:=by rw[Aj,hlen];rfl
  refine Ot Wj ?_
  rw[Od Ow _]
  refine show wpAny _ A.in1 (seqItems? (.ref (s.heap.objs.size+1)) >>= _) _ _ _ from Aa (Om hS rfl ?_)
  refine show wpAny _ A.in1 (tryCatch (pyNext (.ref s.heap.objs.size)) _ >>= _) _ _ _ from Aa (Wm (W.done _ _ _ (by rw[hn];exact⟨⟨_,hJ,rfl,rfl⟩,hl2⟩) λh2 tk k2=>?_))
  refine Aa (U6 (Ab ?_))
  exact h h2 tk d (λb o e=>k2 b o (by simp[(old b o e).2]) (kk b o e)) rfl
end
section
variable{X:Cx}
theorem jj9:∀{ns:List Int}{us:List Value},Vals (ns.map V.int) us->us.length=ns.length/\∀(i:Nat)(v:Value),us[i]?=some v->∃t,v=.int (ns.getD i 0) t
 |[],_,.nil=>⟨rfl,λi v h=>by simp at h⟩
 |n::ns,_,.cons h r=>by
  obtain⟨t,rfl⟩:=h
  obtain⟨h1,h2⟩:=jj9 r
  refine⟨by simp[h1],λi v hv=>?_⟩
  cases i with
  |zero=>simp at hv;exact⟨t,hv.symm⟩
  |succ i=>exact h2 i v (by simpa using hv)
def jld:List V->Hp->VK->Prop:=λxs H Q=>match xs with
 |[.ref l]=>∃(x:Int)(r:List Int),H l=some (.lst ((x::r).map V.int))/\Q (.int (maxL x r)) H
 |_=>False
theorem jg8(l:Addr)(H:Hp)(Q:VK):jld [.ref l] H Q=(∃(x:Int)(r:List Int),H l=some (.lst ((x::r).map V.int))/\Q (.int (maxL x r)) H):=rfl
theorem call_maxL(hc:X.calm=true):jct X (.builtin "max") jld:=by
 intro pins s σ H xs us Q I r h
 unfold jld at h
 split at h
 ·rename_i l
  obtain⟨x,rs,e,q⟩:=h
  obtain⟨u,rfl,ru⟩:=jc6 r
  cases ru
  obtain⟨its,rr,pl,hz⟩:=I.list (SqL.of e)
  obtain⟨h1,h2⟩:=jj9 rr
  refine jnx (kw:=[]) (dv:=none) (I.ok.hd hc) pl.isList h2 h1 (PySem.F.args_max1 _) rfl rfl (λq=>nomatch q) λh' tk v k hv=>?_
  obtain⟨t,rfl⟩:=hv
  exact⟨.int (maxL x rs),H,I.kept (t':=tk) k,⟨t,rfl⟩,q⟩
 ·exact h.elim
end
section
variable{P:Program}{w:World}{K:PySem.W.Frag}
theorem Inv.apartT{X:Cx}{pins:List (Addr×Obj)}{σ:St}{H:Hp}{s:Shared}(I:Inv X pins σ H s){c d:Addr}{xs:List V}(h:SqT X.K H c xs)(f:FpOk X pins H d):d≠c:=by
 rintro rfl
 rcases h with(h|⟨_,h⟩)|⟨o,its,n,hk,_⟩
 ·rw[f.1]at h;cases h
 ·rw[f.1]at h;cases h
 ·have hb:=I.ok.mod.kin _ _ hk
  rcases f.2.2.2.1 with m|m
  ·exact I.ok.noex _ _ hb m
  ·exact absurd (Al (I.ok.bs _ _ hb).1) (Nat.not_lt.mpr m)
end
section
variable{X:Cx}{o e f:Expr}{apos cpos:Pos}{td ty tx:TE}
def jf3:TE:=λ_ H Q=>∀p,H p=none->Q (.ref p) (upd H p (.dK []))
theorem pe_disp0{pos:Pos}:PE X (.Dict [] [] pos) jf3:=by
 intro pins s σ H Q I q
 have hn:=I.hok.fresh (Af s.heap.objs.size)
 have I1:=I.laid (a:=s.heap.objs.size) (o:=.dK []) (h':=s.heap.push {cls:=.type "dict",data:=.dict #[]}) (t':=s.toks) (λ_ _ q=>Ac _ q) (Af _) (jnk s.heap I.big)
 exact wpAny_Dict_empty ⟨.ref s.heap.objs.size,_,I1,rfl,q _ hn⟩
theorem qpe_disp0{pos:Pos}:QE X (.Dict [] [] pos) jf3:=⟨pe_disp0⟩
end
section
variable{X:Cx}{o e:Expr}{apos cpos:Pos}{td ty:TE}
def tDUp(td ty:TE):TE:=λσ H Q=>td σ H λx H1=>∃a,x=.ref a/\IsD H1 a/\ty σ H1 λy H2=>∃b kvs more,y=.ref b/\a≠b/\H2 a=some (.dK kvs)/\H2 b=some (.dK more)/\kvs.length+more.length<=sizeLine /\
 Q .non (upd H2 a (.dK (jd3 kvs more)))
theorem pe_dup(ho:PE X o td)(he:PE X e ty)(m:M1 X o "update" apos e cpos):PE X (.Call (.Attribute o "update" apos) [e] [] cpos) (tDUp td ty):=by
 intro pins s σ H Q I h
 refine wpAny_Call_method m.base m.few m.line PySem.F.plainAttrs_dict PySem.F.slot_dict_update PySem.F.type_dict_update (thn (ho pins s σ H _ I h) λu s1 ⟨x,H1,I1,rx,a,ex,d,q1⟩=>?_)
 subst ex
 obtain rfl:u=Value.ref a:=rx
 obtain⟨t1,t2,_⟩:=jpr I1 d
 refine⟨t1,t2,?_⟩
 rw[m.trees]
 refine Ya rfl (Yq (Y2 (thn (he pins s1 σ H1 _ I1 q1) λiv s2 ⟨y,H2,I2,ry,b,kvs,more,ey,hne,ea,eb,hl,q2⟩=>Calls.spliced_nil ?_)))
 subst ey
 obtain rfl:iv=Value.ref b:=ry
 obtain⟨za,hda,va,ra,da⟩:=jfm I2.hok ea
 obtain⟨zb,hdb,vb,rb,db⟩:=jfm I2.hok eb
 have hz:va.length+vb.length<=sizeLine:=by rw[<-ra.length,<-rb.length];exact hl
 refine call_meetsIn PySem.F.slot_dict_update da.typeIs PySem.F.entry_dict_update (PySem.F.args_dict_update_2 _ _) (meets_dict_update (jck X.prog X.w) a b hne hdb) ⟨va,vb,da,db,hz,λh' dd' _ hs=>?_⟩
 have hlp:(jd3 kvs more).length<=sizeLine:=by have:=jeb more kvs;omega
 have he':∃q,h'.get? a=some q:=let⟨q,_,_,hq,_⟩:=dd';⟨q,hq⟩
 exact⟨.non,_,jeq I2 (by rw[ea];exact True.intro) hs he' (jfl hlp hda (rb.merge ra) dd'),rfl,q2⟩
theorem qpe_dup(ho:QE X o td)(he:QE X e ty)(m:M1 X o "update" apos e cpos):QE X (.Call (.Attribute o "update" apos) [e] [] cpos) (tDUp td ty):=⟨pe_dup ho.h he.h m⟩
end
section
variable{X:Cx}
def FzT(H:Hp)(a:Addr)(xs:List V):Prop:=∃o:Obj,o.dict=none/\H a=some (.frz o (.tup xs))
theorem FzT.sq{K:PySem.W.Frag}{H:Hp}{a:Addr}{xs:List V}(h:FzT H a xs):SqT K H a xs:=let⟨o,_,e⟩:=h;.inl (.inr ⟨o,e⟩)
theorem FzT.kp{S:List Addr}{H H':Hp}{a:Addr}{xs:List V}(h:FzT H a xs)(k:Kp S H H')(n:a∉S):FzT H' a xs:=let⟨o,d,e⟩:=h;⟨o,d,k.old _ _ e n⟩
theorem FzT.at_{pins:List (Addr×Obj)}{σ:St}{H:Hp}{s:Shared}{a:Addr}{xs:List V}(h:FzT H a xs)(I:Inv X pins σ H s):∃(o:Obj)(its:List Value),s.heap.get? a=some o/\o.dict=none/\o.cls=.type "tuple"/\Vals xs its/\IsTup s.heap a its.toArray:=by
 obtain⟨o,d,e⟩:=h
 obtain⟨g,_,its,r,o',g',c,n,dd⟩:=(show ObjOk X.prog X.w H s.heap a (.frz o (.tup xs))from I.hok a _ e)
 rw[g]at g'
 cases g'
 exact⟨o,its,g,d,c,r,o,g,c,n,dd⟩
def jo6:List V->Hp->VK->Prop:=λxs H Q=>∃p ys,xs=[.ref p]/\H p=some (.lst ys)/\∀l H',H l=none->FzT H' l ys->Kp [] H H'->Q (.ref l) H'
theorem jar:jct X (.type "tuple") jo6:=by
 intro pins s σ H xs us Q I r h
 obtain⟨p,ys,rfl,e,q⟩:=h
 obtain⟨u,rfl,rx⟩:=jc6 r
 cases rx
 obtain⟨its,r',pl,hz⟩:=I.list (SqL.of e)
 have hlen:=r'.length
 refine call_tuple_list pl.isList (λh' kp=>?_) (by simp only[Aj] <;> omega)
 have I1:Inv X pins σ H {s with heap:=h'}:=I.kept (t':=s.toks) kp
 have I2:=I1.laid (t':=s.toks) (o:=.frz {cls:=.type "tuple",data:=.seq its.toArray} (.tup ys)) (h':=h'.push {cls:=.type "tuple",data:=.seq its.toArray}) (λb o e=>Ac _ e) (Af _)
  (show ObjOk X.prog X.w _ _ _ (.frz _ (.tup ys))from⟨Ai _ rfl,hz,its,r',IsTup.new _ _⟩)
 have hf:=I1.hok.fresh (Af h'.objs.size)
 exact⟨.ref h'.objs.size,_,I2,rfl,q _ _ hf ⟨_,rfl,jb⟩ ((Kp.refl [] H).new hf)⟩
theorem jjg{pins:List (Addr×Obj)}{σ:St}{H:Hp}{s:Shared}{a:Addr}{xs:List V}{ds:List PyData}(I:Inv X pins σ H s)(h:SqT X.K H a xs)(r:Reps H xs ds):∃as,Reads s.heap (.ref a) (.tuple ds) as:=by
 obtain⟨its,rv,⟨o,e1,e2,n,e4⟩,hz⟩:=I.tuple h
 obtain⟨as,q⟩:=Reps.reads I r rv
 exact⟨_,reads_tuple_at e1 e2 e4 (by simpa using q)⟩
def rEqT(K:PySem.W.Frag):R2:=λx y H Q=>∃a b xs ys ds es,x=.ref a/\y=.ref b/\SqT K H a xs/\SqT K H b ys/\Reps H xs ds/\Reps H ys es/\SeqAt.shaped (.tuple ds)=true/\SeqAt.shaped (.tuple es)=true/\Q (.bl (PyData.eqvAll ds es)) H
theorem op_eqT{K:PySem.W.Frag}(hK:X.K=K)(hu:X.A.units+64<cLine):OpR X (compareOp .Eq) (rEqT K):=by
 subst hK
 intro pins s σ H x y v u Q I rx ry h
 obtain⟨a,b,xs,ys,ds,es,rfl,rfl,h1,h2,r1,r2,s1,s2,q⟩:=h
 cases rx
 cases ry
 obtain⟨as,r1⟩:=jjg I h1 r1
 obtain⟨bs,r2⟩:=jjg I h2 r2
 exact eq_dataH r1 r2 s1 s2 hu ⟨.bl _,H,I,rfl,by simpa[PyData.eqv]using q⟩
theorem jp6(t:Addr)(items:Array Value)(x:Value)(e:Value->Bool)(j:Nat)(hj:j<items.size)(hit:e items[j]=true)(hno:∀m (hm:m<items.size),m<j->e items[m]=false) :
  Meets (Builtin.«tuple.index» ⟨[.ref t,x],[]⟩) (λA R s=>IsTup s.heap t items/\(∀y,y∈items->SeqAt.EqAt A.in1 s y x (e y))/\R (.ok (.ret (.int j s.toks))) {s with toks:=s.toks+1}):=by
 intro prog w A R s ⟨ht,he,h⟩
 obtain⟨o,h1,h2,n,h3⟩:=ht
 wp_walk using U2 h1
 rw[h3]
 refine Ab (Ab ?_)
 show wpAny _ _ (forIn ([0:min items.size items.size]:Std.Legacy.Range) _ _ >>= _) _ _ _
 refine Aa ?_
 rw[Std.Legacy.Range.forIn_eq_forIn_range']
 have sz:([0:min items.size items.size]:Std.Legacy.Range).size=items.size:=by simp[Std.Legacy.Range.size]
 rw[sz]
 refine wpAny_forIn_list _ (λrest b s'=>s'=s/\∃i,i<=j/\rest=List.range' i (items.size-i) 1) _ ?_ ?_ _ _ ⟨rfl,0,Ou _,rfl⟩
 ·rintro y rest b s' ⟨rfl,i,hi,er⟩
  have hlt:i<items.size:=by omega
  rw[show items.size-i=(items.size-(i+1))+1 by omega,List.range'_succ]at er
  obtain⟨rfl,rfl⟩:=List.cons.inj er
  rw[Array.getElem?_eq_getElem hlt]
  refine Aa (he _ (Array.getElem_mem hlt) prog w _ _ ?_)
  by_cases hij:y=j
  ·subst hij
   rw[hit]
   wp_walk
   exact h
  ·rw[hno y hlt (by omega)]
   wp_walk
   exact⟨rfl,y+1,by omega,rfl⟩
 ·rintro b s' ⟨rfl,i,hi,er⟩
  have:=Ob List.length er
  simp at this
  omega
def jfg:V->List V->Hp->VK->Prop:=λx vs H Q=>match x,vs with
 |.ref l,[y]=>∃(xs:List V)(ds:List PyData)(d:PyData)(j:Nat),FzT H l xs/\Reps H xs ds/\Rep H y d/\PyData.canLayAll0 ds=true/\d.canLay0=true/\PyData.depthAll ds<=40/\(∃e,ds[j]?=some e/\PyData.eqv e d=true) /\
   (∀m e,m<j->ds[m]?=some e->PyData.eqv e d=false)/\Q (.int (j:Int)) H
 |_,_=>False
theorem jav(hu:X.A.units+64<cLine):MtM X "tuple.index" jfg:=by
 intro pins s σ H x vs v us Q I rx rv h
 unfold jfg at h
 split at h
 ·rename_i l y
  obtain⟨xs,ds,d,j,e,hr,hy,hcs,hcd,hdp,⟨ej,hj,hit⟩,hno,q⟩:=h
  cases rx
  obtain⟨u,rfl,ru⟩:=rv.one
  obtain⟨_,its,_,_,_,r,pt⟩:=e.at_ I
  obtain⟨as,ra⟩:=hr.reads I r
  obtain⟨bs,rb⟩:=hy.reads I ru
  have hm:=SeqAt.readsAll_map ds its as hcs ra
  have at':∀m (hm':m<its.toArray.size),ds[m]?=some (SeqAt.readOf s.heap its.toArray[m]):=λm hm'=>by
   have q1:(its.map (SeqAt.readOf s.heap))[m]?=some (SeqAt.readOf s.heap its.toArray[m]):=by
    simp
    exact⟨_,Am (by simpa using hm'),rfl⟩
   rwa[hm]at q1
  have hjs:j<its.toArray.size:=by
   have q1:=(Ag.mp hj).1
   rw[<-hm,Ad]at q1
   simpa using q1
  refine Yr F.slot_tuple_index pt.typeIs F.entry_tuple_index (F.args_tuple_index_2 _ _) (jp6 l its.toArray u (λy=>PyData.eqv (SeqAt.readOf s.heap y) d) j hjs ?_ λm h1 h2=>hno m _ h2 (at' m h1)) ⟨pt,SeqAt.items_eqAt (by simpa using ra) rb hcs hcd (by omega),.int (j:Int),H,I.tok _,⟨_,rfl⟩,q⟩
  have q1:=at' j hjs
  rw[hj]at q1
  rw[<-Av q1]
  exact hit
 ·exact h.elim
def isTu(x:V)(H:Hp):Prop:=∃p ys,x=.ref p/\FzT H p ys
def jh0(r:V->List V->Hp->VK->Prop)(to:TE)(t:TA):TE:=λσ H Q=>to σ H λx H1=>isTu x H1/\t σ H1 λxs H2=>r x xs H2 Q
theorem pe_bmTu{o e:Expr}{es:List Expr}{to:TE}{t:TA}{name:Str}{apos cpos:Pos}{id:String}{r:V->List V->Hp->VK->Prop}(slot:Slot "tuple" name id)(hty:typeOf (.builtin id)=pure (.type "method_descriptor"))(hm:MtM X id r)(ho:PE X o to)(ha:PA X (e::es) t)
  (hbase:attributeBase o name X.env (eval o X.env)=eval o X.env)
  (hfew:((backTo cpos (starEach (e::es) X.env)).all (λx=>!x.1) && (backToKw cpos (keywordEach [] X.env)).all (λx=>x.1.isSome)
   && decide ((e::es).length+([]:List Keyword).length+(if([]:List Keyword).isEmpty then 0 else 1)<30))=true)
  (hline:(apos.endLine == cpos.line)=true) (hs:starEach (e::es) X.env=(false,eval e X.env)::starEach es X.env) (hplain:(backTo cpos (starEach es X.env)).any (·.1)=false) :
  PE X (.Call (.Attribute o name apos) (e::es) [] cpos) (jh0 r to t):=by
 intro pins s σ H Q I h
 refine wpAny_Call_method_late hbase hfew hline rfl (thn (ho pins s σ H _ I h) λv s1 ⟨x,H1,I1,r1,⟨p,ys,ex,f⟩,q1⟩=>?_)
 subst ex
 obtain rfl:v=Value.ref p:=r1
 obtain⟨ob,its,g,d,oc,rr,pt⟩:=f.at_ I1
 refine⟨"tuple",id,PySem.F.plainAttrs_tuple,slot,hty,⟨ob,g,oc⟩,λa ea=>by cases ea;exact⟨ob,g,d⟩,?_⟩
 have hA:=ha cpos pins s1 σ H1 _ I1 q1
 rw[hs]at hA⊢
 refine Ya (by show(false || (backTo cpos (starEach es X.env)).any (·.1))=false;rw[hplain] <;> rfl) (Yq (thn hA λus s2 ⟨vs,H2,I2,r2,q2⟩=>hm pins s2 σ H2 (.ref p) vs (.ref p) us Q I2 rfl r2 q2))
theorem jba{o e:Expr}{es:List Expr}{to:TE}{t:TA}{name:Str}{apos cpos:Pos}{id:String}{r:V->List V->Hp->VK->Prop}(slot:Slot "tuple" name id)(hty:typeOf (.builtin id)=pure (.type "method_descriptor"))(hm:MtM X id r)(ho:QE X o to)(ha:QA X (e::es) t)
  (hbase:attributeBase o name X.env (eval o X.env)=eval o X.env:=by rfl)
  (hfew:((backTo cpos (starEach (e::es) X.env)).all (λx=>!x.1) && (backToKw cpos (keywordEach [] X.env)).all (λx=>x.1.isSome)
   && decide ((e::es).length+([]:List Keyword).length+(if([]:List Keyword).isEmpty then 0 else 1)<30))=true:=by rfl)
  (hline:(apos.endLine == cpos.line)=true:=by rfl) (hs:starEach (e::es) X.env=(false,eval e X.env)::starEach es X.env:=by rfl) (hplain:(backTo cpos (starEach es X.env)).any (·.1)=false:=by rfl) :
  QE X (.Call (.Attribute o name apos) (e::es) [] cpos) (jh0 r to t):=⟨pe_bmTu slot hty hm ho.h ha.h hbase hfew hline hs hplain⟩
theorem jb8{K:PySem.W.Frag}{tg l:Expr}{tl:TE}(hl:QE X l tl)(hK:X.K=K):QI X tg l (iTup K tl):=by subst hK;exact⟨pi_tup hl.h⟩
end
theorem jmo{K:PySem.W.Frag}{a:Addr}{xs:List V}{g:TG}{tb:TS}{D:Ends}{σ:L2.St}{H:Hp}(Pv:Nat->L2.St->Hp->Prop)(h0:Pv 0 σ H)(hl:∀i σ H,i<=xs.length->Pv i σ H->SqT K H a xs)
  (hs:∀i x σ H,xs[i]?=some x->Pv i σ H->g x σ H λσ2 H2=>tb {D with nx:=Pv (i+1),ct:=Pv (i+1),bk:=D.nx} σ2 H2) (hd:∀σ H,Pv xs.length σ H->D.nx σ H):jcn (Itt K a) g tb D σ H:=jj7 Pv h0 hl hs hd
section
variable{X:Cx}{K:PySem.W.Frag}{o e value:Expr}{f:Str}{pos pos' tpos:Pos}{ta tv:TE}
theorem z4(hK:X.K=K)(he:QE X e ta)(hb:attributeBase e f X.env (eval e X.env)=eval e X.env:=by rfl):QE X (.Attribute e f pos) (tFld K ta f):=by subst hK;exact⟨pe_fld he.h hb⟩
theorem jb9(hK:X.K=K)(ha:QE X o ta)(hv:QE X value tv)(hs:swapsWith value (some (.Attribute o f pos')) pos.line X.env=pure false:=by rfl):QS X (.Assign [.Attribute o f pos'] value pos) (sFld K ta tv f):=by subst hK;exact⟨ps_fld ha.h hv.h hs⟩
end
section
variable{X:Cx}{CX:CXT}{k:Nat}{f C:Addr}{fd:FuncData}{ps:List Str}{sp:Sp}{dvs:List V}{ds:List Value}{E:XK}{x m:Str}{p pos apos:Pos}{e o:Expr}{es:List Expr}{ta:TE}{t:TA}
theorem z5{pl:Sem Bool}(he:QE X o ta)(c:Cls X.K C)(hm:Meth X.K C m f)(F:FnOk X.prog X.w X.K X.mg X.base CX k f fd ps sp)(hr:Room k X.A)(hb:Binds X.K fd ps ds)(hd:Vals dvs ds)(hx:jdc CX X E)(ha:QA X (e::es) t)
  (hst:starEach (e::es) X.env=(false,eval e X.env)::starEach es X.env:=by rfl) (hpl:(backTo pos (starEach es X.env)).any (·.1)=false:=by rfl)
  (ht:eval (.Call (.Attribute o m apos) (e::es) [] pos) X.env=(do
   let ov <-eval o X.env
   standAt apos.atName
   let(f,first) <-holding [ov] (getMethod ov m pl)
   callWith pos f first (backTo pos (starEach (e::es) X.env)) (backToKw pos (keywordEach [] X.env))):=by rfl) :
  QE X (.Call (.Attribute o m apos) (e::es) [] pos) (jh5 C m sp dvs E ta t):=⟨pe_meth he.h c hm F hr hb hd hx ha.h hst hpl ht⟩
end
section
variable{X:Cx}{CX:CXT}{k:Nat}{f C:Addr}{fd:FuncData}{ps:List Str}{sp:Sp}{dvs:List V}{ds:List Value}{E:XK}{x m:Str}{p pos apos:Pos}{e o:Expr}{es:List Expr}{ta:TE}{t:TA}
theorem qpe_make(M:Mk X.K C f)(F:FnOk X.prog X.w X.K X.mg X.base CX k f fd ps sp)(hr:Room (k+1) X.A)(hg:Gl X x)(hm:X.mg x=some (.ref C))(hb:Binds X.K fd ps ds)(hd:Vals dvs ds)(hx:jdc CX X E)(ha:QA X (e::es) t)
  (hdb:(x == ("__debug__":Str))=false:=by decide) (he:starEach (e::es) X.env=(false,eval e X.env)::starEach es X.env:=by rfl) (hpl:(backTo pos (starEach es X.env)).any (·.1)=false:=by rfl) :
  QE X (.Call (.Name x p) (e::es) [] pos) (jh4 C sp dvs E t):=⟨pe_make M F hr hg hm hb hd hx ha.h hdb he hpl⟩
end
structure ItP(prog:Program)(w:World)(K:Type)[DecidableEq K] where
 is:Heap->K->Value->Prop
 hash:K->Int
 draws:K->Nat
 inj:∀{h:Heap}{v:Value}{x y:K},is h x v->is h y v->x=y
 keeps:∀{h h':Heap}{k:K}{v:Value}{d:Addr}{o:Obj}{es ep},is h k v->h.get? d=some o->o.data=.dict es ep->Heap.SameBut d h h'->is h' k v
 pyHash:∀{A:Around}{E:Value->Shared->Prop}{s:Shared}{k:K}{v:Value}{Q:Int->Shared->Prop},A.units<cLine->is s.heap k v->Q (hash k) {s with toks:=s.toks+draws k}->wpAny (model prog w) A (PySem.pyHash v) Q E s
 eqBool:∀{A:Around}{E:Value->Shared->Prop}{s:Shared}{x y:K}{u v:Value}{Q:Bool->Shared->Prop},A.units<cLine->is s.heap x u->is s.heap y v->Q (decide (x=y)) s->wpAny (model prog w) A (PySem.eqBool u v) Q E s
 quiet:∀{A:Around}{E:Value->Shared->Prop}{s:Shared}{k:K}{v:Value}{Q:Bool->Shared->Prop},is s.heap k v->Q true s->wpAny (model prog w) A (eqIsQuiet 7 v) Q E s
section
variable{prog:Program}{w:World}{A:Around}{E:Value->Shared->Prop}{s:Shared}
theorem je6{a:Addr}{o:Obj}{its:Array Value}{n m:Nat}{Q:Bool->Shared->Prop}(ho:s.heap.get? a=some o)(hc:o.cls=.type "tuple")(hd:o.data=.seq its n)
  (hi:∀v∈its.toList,∀Q:Bool->Shared->Prop,Q true s->wpAny (model prog w) A (eqIsQuiet m v) Q E s) (h:Q true s):wpAny (model prog w) A (eqIsQuiet (m+1) (.ref a)) Q E s:=by
 have hT:s.TypeIs (.ref a) "tuple":=⟨o,ho,hc⟩
 unfold eqIsQuiet
 refine Aa (wpAny_specialOf hT F.slot_tuple_eq.lookup ?_)
 show wpAny _ _ (isInstance (.ref a) (.type "tuple") >>= _) _ _ s
 refine Aa (Wb hT isSubtype_tuple_tuple ?_)
 refine Aa (Om ho hd (Aa ?_))
 show wpAny _ _ (forIn its _ _) _ _ s
 rw[<-Array.forIn_toList]
 generalize its.toList=l at hi
 induction l with
 |nil=>exact Ab (Ab h)
 |cons v l ih =>
  rw[Ui]
  exact Aa (Aa (hi v (.head _) _ (Ab (ih λu hu=>hi u (.tail _ hu)))))
end
def ItP.key{prog:Program}{w:World}{K:Type}[DecidableEq K](knd:KeyKind prog w K):ItP prog w K where
 is:=λ_ k v=>knd.is k v=true
 hash:=knd.hash
 draws:=λ_=>1
 inj:=λh1 h2=>knd.inj _ _ _ h1 h2
 keeps:=λh _ _ _=>h
 pyHash:=λ_ h q=>knd.pyHash h q
 eqBool:=λ_ h1 h2 q=>knd.eqBool h1 h2 q
 quiet:=λh q=>by rw[eqIsQuiet_byValue _ (knd.byValue _ _ h)];exact Ab q
def ItP.tup{prog:Program}{w:World}{K:Type}[DecidableEq K](knd:KeyKind prog w K):ItP prog w (List K) where
 is:=λh k v=>∃a,v=.ref a/\(tupleKind knd).is h k a
 hash:=(tupleKind knd).hash
 draws:=(tupleKind knd).draws
 inj:=fun⟨a,e,h1⟩ ⟨b,e',h2⟩=>by cases e;cases e';exact(tupleKind knd).inj h1 h2
 keeps:=fun⟨a,e,h1⟩ h2 h3 h4=>⟨a,e,(tupleKind knd).keeps h1 h2 h3 h4⟩
 pyHash:=λhu ⟨a,e,h⟩ q=>by subst e;exact(tupleKind knd).pyHash hu h q
 eqBool:=λhu ⟨a,e,h⟩ ⟨b,e',h'⟩ q=>by subst e;subst e';exact(tupleKind knd).eqBool hu h h' q
 quiet:=fun⟨a,e,o,its,n,ho,hc,hd,hi⟩ q=>by
  subst e
  exact je6 (m:=6) ho hc hd (λv hv Q q=>by rw[eqIsQuiet_byValue _ (hi.byValue v hv)];exact Ab q) q
section
variable{prog:Program}{w:World}{K L:Type}[DecidableEq K][DecidableEq L](I:ItP prog w K)(J:ItP prog w L)
def IsPr(h:Heap)(k:K×L)(a:Addr):Prop:=∃o u v n,h.get? a=some o/\o.cls=.type "tuple"/\o.data=.seq #[u,v] n/\I.is h k.1 u/\J.is h k.2 v
variable{I J}{A:Around}{E:Value->Shared->Prop}{s:Shared}{k k':K×L}{a b:Addr}
theorem IsPr.ty(p:IsPr I J s.heap k a):s.TypeIs (.ref a) "tuple":=let⟨o,_,_,_,ho,hc,_⟩:=p;⟨o,ho,hc⟩
theorem IsPr.inj{h:Heap}(p:IsPr I J h k a)(q:IsPr I J h k' a):k=k':=by
 obtain⟨o,u,v,n,ho,_,hd,h1,h2⟩:=p
 obtain⟨o',u',v',n',ho',_,hd',h1',h2'⟩:=q
 rw[ho]at ho';cases ho'
 rw[hd]at hd';cases hd'
 exact Prod.ext (I.inj h1 h1') (J.inj h2 h2')
theorem pair_hash{Q:Int->Shared->Prop}(hu:A.units+1<cLine)(p:IsPr I J s.heap k a)(h:Q (reduceHash (Builtin.Tuple.tupleHashOf [I.hash k.1,J.hash k.2])) {s with toks:=s.toks+(I.draws k.1+J.draws k.2+1)}) :
  wpAny (model prog w) A (PySem.pyHash (.ref a)) Q E s:=by
 have hT:=p.ty
 obtain⟨o,u,v,n,ho,hc,hd,h1,h2⟩:=p
 refine PySem.W.pyHash_slot (T:="tuple") hT F.slot_tuple_hash F.entry_tuple_hash (F.args_tuple_hash_1 _) (beq_builtin_none _) (.inr (by omega)) ?_
 show wpAny _ _ (Builtin.Tuple.tupleItemsOf (.ref a) >>= _) _ _ s
 refine Aa (Y4 ho hd (Aa ?_))
 rw[<-Array.forIn_toList]
 show wpAny _ _ (forIn [u,v] _ _) _ _ _
 have hu':A.in1.units<cLine:=hu
 rw[Ui]
 refine Aa (Aa (I.pyHash hu' h1 (Ab ?_)))
 dsimp only
 rw[Ui]
 refine Aa (Aa (J.pyHash (s:={s with toks:=s.toks+I.draws k.1}) hu' h2 (Ab ?_)))
 refine Ab ?_
 show wpAny _ _ (retInt _) _ _ _
 exact Aa (wpAny_mkInt (Ab ⟨_,_,rfl,by simpa[Nat.add_assoc]using h⟩))
theorem pair_eq{Q:Bool->Shared->Prop}(hu:A.units+1<cLine)(p:IsPr I J s.heap k a)(q:IsPr I J s.heap k' b)(h:Q (decide (k=k')) s):wpAny (model prog w) A (PySem.eqBool (.ref a) (.ref b)) Q E s:=by
 have hT:=p.ty
 have hT':=q.ty
 unfold PySem.eqBool
 try with_reducible refine On ?_
 show wpAny _ _ (if(Value.ref a == Value.ref b)=true then _ else _) Q E s
 by_cases hab:a=b
 ·subst hab
  rw[Ap (by simp)]
  refine Aa (U6 (Ab ?_))
  rw[Ol (p.inj q)]at h
  exact h
 ·rw[At (by simpa using hab)]
  refine Aa (wpAny_richCompare_same_room (op:=.Eq) hT hT' F.slot_tuple_eq (Op F.slot_tuple_eq hT F.entry_tuple_eq ?_ (F.args_tuple_eq_2 _ _)) (by omega))
  obtain⟨o,u,v,n,ho,hc,hd,h1,h2⟩:=p
  obtain⟨o',u',v',n',ho',hc',hd',h1',h2'⟩:=q
  have hu':A.in1.units<cLine:=hu
  show wpAny _ _ (isInstance (.ref b) (.type "tuple") >>= _) _ _ s
  refine Aa (Wb hT' isSubtype_tuple_tuple ?_)
  simp only[Yd,Iw,O6]
  refine Aa (Y4 ho hd (Aa (Y4 ho' hd' (Aa ?_))))
  show wpAny _ _ (forIn [(u,u'),(v,v')] _ _) _ _ _
  rw[Ui]
  refine Aa (Aa (I.eqBool hu' h1 h1' ?_))
  by_cases e1:k.1=k'.1
  ·rw[Ol e1]
   simp only[Yd,Iw,O6]
   refine Ab ?_
   dsimp only
   rw[Ui]
   refine Aa (Aa (J.eqBool hu' h2 h2' ?_))
   by_cases e2:k.2=k'.2
   ·rw[Ol e2]
    rw[Ol (Prod.ext e1 e2)]at h
    simp only[Yd,Iw,O6]
    exact Ab (Ab (Ab ⟨_,rfl,(λe=>nomatch e),Oi h⟩))
   ·rw[Ir e2]
    rw[Ir λz=>e2 (by rw[z])]at h
    exact Aa (Ab (Ab (Ab (Ab ⟨_,rfl,(λe=>nomatch e),Oi h⟩))))
  ·rw[Ir e1]
   rw[Ir λz=>e1 (by rw[z])]at h
   exact Aa (Ab (Ab (Ab (Ab ⟨_,rfl,(λe=>nomatch e),Oi h⟩))))
end
def jnz{prog:Program}{w:World}{K L:Type}[DecidableEq K][DecidableEq L](I:ItP prog w K)(J:ItP prog w L):HeapKind prog w (K×L) where
 is:=IsPr I J
 hash:=λk=>reduceHash (Builtin.Tuple.tupleHashOf [I.hash k.1,J.hash k.2])
 draws:=λk=>I.draws k.1+J.draws k.2+1
 room:=λA=>A.units+1<cLine
 inj:=λp q=>p.inj q
 keeps:=fun⟨o,u,v,n,ho,hc,hd,h1,h2⟩ ho' hd' hs=>⟨o,u,v,n,(hs.2 _ (λz=>by rw[z,ho']at ho;cases ho;rw[hd]at hd';cases hd')).trans ho,hc,hd,I.keeps h1 ho' hd' hs,J.keeps h2 ho' hd' hs⟩
 pyHash:=λhu p h=>pair_hash hu p h
 eqBool:=λhu p q h=>pair_eq hu p q h
 quiet:=fun⟨o,u,v,n,ho,hc,hd,h1,h2⟩ h=>je6 (m:=7) ho hc hd (λx hx Q q=>by
  simp only[Ar,Ae,Yh]at hx
  rcases hx with e|e
  ·subst e;exact I.quiet h1 q
  ·subst e;exact J.quiet h2 q) h
def TKp(H H':Hp):Prop:=(∀b ys,H b=some (.tup ys)->H' b=some (.tup ys))/\∀b ob ys,H b=some (.frz ob (.tup ys))->H' b=some (.frz ob (.tup ys))
theorem TKp.fz{H H':Hp}(h:TKp H H'){a:Addr}{xs:List V}(f:FzT H a xs):FzT H' a xs:=let⟨o,d,e⟩:=f;⟨o,d,h.2 _ _ _ e⟩
theorem TKp.of{S:List Addr}{H H':Hp}(k:Kp S H H')(n:∀b∈S,∃o,H b=some o/\∀ob u,o≠.frz ob u):TKp H H':=⟨k.tup,λb ob ys e=>k.old _ _ e λm=>by
 obtain⟨o,e',z⟩:=n b m
 rw[e]at e'
 exact z _ _ (Av e').symm⟩
structure AbK{P:Program}{w:World}{K:Type}[DecidableEq K](I:ItP P w K) where
 ab:Hp->K->V->Prop
 ok:∀{H:Hp}{h:Heap}{k:K}{x:V}{v:Value},HOk P w H h->ab H k x->RelV x v->I.is h k v
 keep:∀{H H':Hp}{k:K}{x:V},TKp H H'->ab H k x->ab H' k x
def jqb(P:Program)(w:World):AbK (ItP.key (jck P w)) where
 ab:=λ_ k x=>x=kV k
 ok:=λ_ e r=>by subst e;exact jft r
 keep:=λ_ e=>e
def jkt(P:Program)(w:World):AbK (ItP.tup (jck P w)) where
 ab:=λH k x=>∃a,x=.ref a/\FzT H a (k.map kV)
 ok:=λhok ⟨a,e,ob,_,ha⟩ r=>by
  subst e
  obtain⟨_,_,its,r1,o,h1,h2,n,h3⟩:=(show ObjOk P w _ _ a (.frz ob (.tup _))from hok a _ ha)
  exact⟨a,r,o,its.toArray,n,h1,h2,h3,by simpa using jeh r1⟩
 keep:=λh ⟨a,e,ha⟩=>⟨a,e,h.fz ha⟩
structure PKd(P:Program)(w:World)(K L:Type)[DecidableEq K][DecidableEq L] where
 I:ItP P w K
 J:ItP P w L
 ai:AbK I
 aj:AbK J
def PKd.tt(P:Program)(w:World):PKd P w (List Key) (List Key):=⟨_,_,jkt P w,jkt P w⟩
def PKd.kt(P:Program)(w:World):PKd P w Key (List Key):=⟨_,_,jqb P w,jkt P w⟩
section
variable{P:Program}{w:World}{K L:Type}[DecidableEq K][DecidableEq L](κ:PKd P w K L)
def PKd.kd:HeapKind P w (K×L):=jnz κ.I κ.J
def KA(H:Hp)(k:K×L)(b:Addr):Prop:=∃x y,H b=some (.tup [x,y])/\κ.ai.ab H k.1 x/\κ.aj.ab H k.2 y
def dφ(a:Addr)(xs:List ((K×L)×Addr×Value)):Heap->Prop:=λh=>∃o es ep,h.get? a=some o/\o.ExactDict/\o.data=.dict es ep/\es.toList=xs.map (entryOfKey κ.kd)
def DP(H:Hp)(a:Addr)(G:K×L->Option V)(n:Nat):Prop:=∃xs:List ((K×L)×Addr×Value),H a=some (.ext (dφ κ a xs))/\(a == sysModules)=false/\xs.length<=n/\(∀x∈xs,KA κ H x.1 x.2.1)/\(xs.map (·.1)).Nodup/\∀k,RelO (G k) ((atKey xs k).map (·.2))
variable{κ}{H H':Hp}{h:Heap}{a b:Addr}{k:K×L}{G:K×L->Option V}{n:Nat}
theorem KA.keep(ht:TKp H H')(q:KA κ H k b):KA κ H' k b:=let⟨x,y,e,h1,h2⟩:=q;⟨x,y,ht.1 _ _ e,κ.ai.keep ht h1,κ.aj.keep ht h2⟩
theorem KA.is(ok:HOk P w H h)(q:KA κ H k b):κ.kd.is h k b:=by
 obtain⟨x,y,e,h1,h2⟩:=q
 obtain⟨_,its,r,o,g1,g2,m,g3⟩:=(show ObjOk P w H h b (.tup [x,y])from ok b _ e)
 match its,r with
 |[u,v],.cons r1 (.cons r2 .nil)=>exact⟨o,u,v,m,g1,g2,g3,κ.ai.ok ok h1 r1,κ.aj.ok ok h2 r2⟩
theorem DP.keep{S:List Addr}(k:Kp S H H')(hn:a∉S)(hS:∀b∈S,∃o,H b=some o/\∀ob u,o≠.frz ob u)(d:DP κ H a G n):DP κ H' a G n:=let⟨xs,e,h1,h2,h3,h4,h5⟩:=d;⟨xs,k.old _ _ e hn,h1,h2,λx hx=>(h3 x hx).keep (TKp.of k hS),h4,h5⟩
theorem DP.ext(d:DP κ H a G n):∃φ,H a=some (.ext φ):=let⟨xs,e,_⟩:=d;⟨_,e⟩
theorem DP.le{m:Nat}(d:DP κ H a G n)(hm:n<=m):DP κ H a G m:=let⟨xs,e,h1,h2,h3⟩:=d;⟨xs,e,h1,Io h2 hm,h3⟩
theorem dφ_ok{xs:List ((K×L)×Addr×Value)}(d:dφ κ a xs h):ObjOk P w H h a (.ext (dφ κ a xs)):=⟨d,let⟨o,_,_,e,_⟩:=d;⟨o,e⟩,λh1 h2 ⟨o,es,ep,e,c⟩ st=>⟨o,es,ep,st _ e,c⟩⟩
theorem jl1{xs:List ((K×L)×Addr×Value)}(k j:K×L)(b:Addr)(v:Value):((atKey (storedH xs k b v) j).map (·.2))=if j=k then some v else(atKey xs j).map (·.2):=by
 unfold storedH
 by_cases hs:(atKey xs k).isSome=true
 ·rw[Ap hs]
  have gen:∀xs:List ((K×L)×Addr×Value),(atKey (xs.map (putAt k v)) j).map (·.2)=((atKey xs j).map (·.2)).map λu=>if j=k then v else u:=by
   intro xs
   induction xs with
   |nil=>rfl
   |cons x xs ih =>
    by_cases e:x.1=j
    ·have e1:(putAt k v x).1=j:=by unfold putAt;split <;> exact e
     have e2:(putAt k v x).2.2=if j=k then v else x.2.2:=by unfold putAt;rw[e];split <;> rfl
     simp[atKey,List.find?_cons,e,e1,e2]
    ·have e1:¬(putAt k v x).1=j:=by unfold putAt;split <;> exact e
     simp[atKey,List.find?_cons,e,e1]at ih⊢
     exact ih
  rw[gen]
  by_cases e:j=k
  ·subst e
   obtain⟨p,hp⟩:=Um.mp hs
   rw[hp];simp
  ·simp[e,Function.comp_def]
 ·rw[At hs]
  have hn:atKey xs k=none:=by cases z:atKey xs k with|none=>rfl|some p=>rw[z]at hs;exact absurd rfl hs
  by_cases e:j=k
  ·subst e
   rw[Ap rfl]
   unfold atKey at hn⊢
   rw[List.find?_append]
   cases z:xs.find? λx=>decide (x.1=j)with
   |none=>simp
   |some p=>rw[z]at hn;cases hn
  ·rw[At e]
   unfold atKey
   rw[List.find?_append]
   have:([(k,b,v)]:List ((K×L)×Addr×Value)).find? (λx=>decide (x.1=j))=none:=by simp[Up e]
   rw[this,Option.or_none]
theorem jls{xs:List ((K×L)×Addr×Value)}{v:Value}{x:(K×L)×Addr×Value}(hx:x∈storedH xs k b v):(∃y∈xs,x.1=y.1/\x.2.1=y.2.1)\/x.1=k/\x.2.1=b:=by
 unfold storedH at hx
 split at hx
 ·obtain⟨y,hy,rfl⟩:=Ay.mp hx
  refine .inl ⟨y,hy,?_⟩
  unfold putAt
  split <;> exact⟨rfl,rfl⟩
 ·rcases Is.mp hx with q|q
  ·exact .inl ⟨x,q,rfl,rfl⟩
  ·cases Ah.mp q;exact .inr ⟨rfl,rfl⟩
end
section
variable{X:Cx}{P:Program}{w:World}{K L:Type}[DecidableEq K][DecidableEq L](κ:PKd P w K L)
def jgj(ty td:TE):TE:=λσ H Q=>ty σ H λy H1=>td σ H1 λx H2=>∃a G n k b,x=.ref a/\DP κ H2 a G n/\y=.ref b/\KA κ H2 k b/\Q (.bl (!(G k).isSome)) H2
def jlt(td ty:TE):TE:=λσ H Q=>td σ H λx H1=>ty σ H1 λy H2=>∃a G n k b v,x=.ref a/\DP κ H2 a G n/\y=.ref b/\KA κ H2 k b/\G k=some v/\Q v H2
def jlh(td ty tv:TE):TS:=λD σ H=>tv σ H λv H1=>td σ H1 λx H2=>ty σ H2 λy H3=>∃a G n k b,x=.ref a/\DP κ H3 a G n/\n<sizeLine/\y=.ref b/\KA κ H3 k b /\
 ∀φ,DP κ (upd H3 a (.ext φ)) a (λj=>if j=k then some v else G j) (n+1)->D.nx σ (upd H3 a (.ext φ))
def jlu:TE:=λ_ H Q=>∀p φ,H p=none->DP κ (upd H p (.ext φ)) p (λ_=>none) 0->Q (.ref p) (upd H p (.ext φ))
variable{κ}{i o value:Expr}{ty td tv:TE}{pos pos':Pos}
theorem DP.of{H:Hp}{h:Heap}{a:Addr}{G:K×L->Option V}{n:Nat}(ok:HOk P w H h)(d:DP κ H a G n):∃xs,H a=some (.ext (dφ κ a xs))/\(a == sysModules)=false/\xs.length<=n/\h.DictOfH κ.kd a xs/\(∀k,RelO (G k) ((atKey xs k).map (·.2)))/\∀x∈xs,KA κ H x.1 x.2.1:=by
 obtain⟨xs,e,h1,h2,h3,h4,h5⟩:=d
 obtain⟨⟨o,es,ep,g1,g2,g3,g4⟩,_⟩:=(show ObjOk P w H h a (.ext (dφ κ a xs))from ok a _ e)
 exact⟨xs,e,h1,h2,⟨o,es,ep,g1,g2,g3,g4,λx hx=>(h3 x hx).is ok,h4⟩,h5,h3⟩
theorem jbc(hP:X.prog=P)(hw:X.w=w)(hu:X.A.units+2<cLine)(hi:QE X i ty)(ho:QE X o td):QC X .NotIn i o (jgj κ ty td):=by
 subst hP;subst hw
 refine⟨λpins s σ H Q I h=>?_⟩
 refine thn (hi.h pins s σ H _ I h) λiv s1 ⟨y,H1,I1,ry,q1⟩=>thn (ho.h pins s1 σ H1 _ I1 q1) λu s2 ⟨x,H2,I2,rx,a,G,n,k,b,ex,dp,ey,ka,q2⟩=>?_
 subst ex;subst ey
 obtain rfl:u=Value.ref a:=rx
 obtain rfl:iv=Value.ref b:=ry
 obtain⟨xs,_,hs,_,dd,rel,_⟩:=dp.of I2.hok
 refine wpAny_notIn_heap (knd:=κ.kd) hu (ka.is I2.hok) hs dd ?_
 have q:=(rel k).isSome_eq
 rw[Option.isSome_map]at q
 rw[<-q]
 exact⟨.bl _,H2,I2.tok _,rfl,q2⟩
theorem jbv(hP:X.prog=P)(hw:X.w=w)(hu:X.A.units+2<cLine)(ho:QE X o td)(hi:QE X i ty)(hs:NoSl i):QE X (.Subscript o i pos) (jlt κ td ty):=by
 subst hP;subst hw
 refine⟨λpins s σ H Q I h=>?_⟩
 refine jkq PySem.F.slot_dict_getitem.lookup hs (thn (ho.h pins s σ H _ I h) λu s1 ⟨x,H1,I1,rx,q1⟩=>thn (hi.h pins s1 σ H1 _ I1 q1) λiv s2 ⟨y,H2,I2,ry,a,G,n,k,b,v,ex,dp,ey,ka,gk,q2⟩=>?_)
 subst ex;subst ey
 obtain rfl:u=Value.ref a:=rx
 obtain rfl:iv=Value.ref b:=ry
 obtain⟨xs,_,hs,_,dd,rel,_⟩:=dp.of I2.hok
 refine⟨dd.typeIs,?_⟩
 have q:=rel k
 rw[gk]at q
 obtain⟨w',hw',rw'⟩:=RelO.some_of q
 obtain⟨p,hp,hp2⟩:=Ut.mp hw'
 refine wpAny_getItem_heap (knd:=κ.kd) hu (ka.is I2.hok) dd hp ?_
 rw[hp2]
 exact⟨v,H2,I2.tok _,rw',q2⟩
theorem jbz(hP:X.prog=P)(hw:X.w=w)(hu:X.A.units+2<cLine)(ho:QE X o td)(hi:QE X i ty)(hv:QE X value tv)(hs:swapsWith value (some (.Subscript o i pos')) pos.line X.env=pure false):QS X (.Assign [.Subscript o i pos'] value pos) (jlh κ td ty tv):=by
 subst hP;subst hw
 refine⟨λpins s σ H D I h=>?_⟩
 refine wpAny_Assign_Subscript (thn (hv.h pins s σ H _ I h) λr s1 ⟨v,H1,I1,rv,q1⟩=>thn (ho.h pins s1 σ H1 _ I1 q1) λu s2 ⟨x,H2,I2,rx,q2⟩=>thn (hi.h pins s2 σ H2 _ I2 q2) λiv s3 ⟨y,H3,I3,ry,a,G,n,k,b,ex,dp,hn,ey,ka,q3⟩=>?_) hs
 subst ex;subst ey
 obtain rfl:u=Value.ref a:=rx
 obtain rfl:iv=Value.ref b:=ry
 obtain⟨xs,ea,hs',hl,dd,rel,hk3⟩:=dp.of I3.hok
 refine wpAny_setItem_heap (knd:=κ.kd) (hsz:=by omega) hu (ka.is I3.hok) dd λh' dd' hsb=>?_
 obtain⟨q,es,ep,hq,h2,h3,h4,h5,h6⟩:=dd'
 have new:dφ κ a (storedH xs k b r) h':=⟨q,es,ep,hq,h2,h3,h4⟩
 have tk:TKp H3 (upd H3 a (.ext (dφ κ a (storedH xs k b r)))):=⟨λc ys ec=>by rw[jd (jhv ec ea (λz=>nomatch z))];exact ec,λc ob ys ec=>by rw[jd (jhv ec ea (λz=>nomatch z))];exact ec⟩
 refine⟨σ,_,jeq I3 (by rw[ea];exact True.intro) hsb ⟨q,hq⟩ (dφ_ok new),q3 _ ⟨storedH xs k b r,jb,hs',?_,λx hx=>?_,h6,λj=>?_⟩⟩
 ·unfold storedH
  split
  ·rw[Ad];omega
  ·rw[Aw];simp;omega
 ·rcases jls hx with⟨y,hy,e1,e2⟩|⟨e1,e2⟩
  ·rw[e1,e2];exact(hk3 y hy).keep tk
  ·rw[e1,e2];exact ka.keep tk
 ·rw[jl1];dsimp only
  by_cases e:j=k
  ·rw[Ap e,Ap e];exact rv
  ·rw[At e,At e];exact rel j
theorem jbw(hP:X.prog=P)(hw:X.w=w):QE X (.Dict [] [] pos) (jlu κ):=by
 subst hP;subst hw
 refine⟨λpins s σ H Q I h=>?_⟩
 have hn:(s.heap.objs.size == sysModules)=false:=O5.mpr (Up (Ao I.big))
 have new:dφ κ s.heap.objs.size [] (s.heap.push {cls:=.type "dict",data:=.dict #[]}):=⟨_,#[],0,Ai _ rfl,⟨rfl,rfl,rfl⟩,rfl,rfl⟩
 exact wpAny_Dict_empty ⟨.ref s.heap.objs.size,_,I.laid (a:=s.heap.objs.size) (o:=.ext (dφ κ s.heap.objs.size [])) (t':=s.toks) (λ_ _ q=>Ac _ q) (Af _) (dφ_ok new),rfl,h _ _ (I.hok.fresh (Af _)) ⟨[],jb,hn,Af _,(by simp),(by simp),λk=>True.intro⟩⟩
end
section
structure ZTLM(h h':Heap)(a b:Addr):Prop where
 z:IsZip h' (h.objs.size+4) (h.objs.size+2) (h.objs.size+3) .none
 ti:IsPair h' (h.objs.size+2) (.ref h.objs.size) (.ref (h.objs.size+1))
 to:IsPair h' (h.objs.size+3) .none .none
 i1:h'.IsTupleIter h.objs.size a 0
 i2:h'.IsListIter (h.objs.size+1) b 0
 old:∀c o,h.get? c=some o->h'.get? c=some o
def ztlH(h:Heap)(a b:Addr):Heap:=((((h.push (ztO a)).push (zlO b)).push {cls:=.type "tuple",data:=.seq #[.ref h.objs.size,.ref (h.objs.size+1)]}).push {cls:=.type "tuple",data:=.seq #[.none,.none]}).push {cls:=.type "zip",data:=.fields #[.none,.bool false,.bool false,.ref (h.objs.size+2),.ref (h.objs.size+3)]}
theorem jqa(h:Heap)(a b:Addr):ZTLM h (ztlH h a b) a b:=by
 have P:∀(k:Heap)(o:Obj){c:Addr}{u:Obj},k.get? c=some u->(k.push o).get? c=some u:=λk o {c u} e=>Ac o e
 have t1:(h.push (ztO a)).objs.size=h.objs.size+1:=by rw[Az]
 have t2:((h.push (ztO a)).push (zlO b)).objs.size=h.objs.size+2:=by rw[Az,t1]
 have t3:(((h.push (ztO a)).push (zlO b)).push {cls:=.type "tuple",data:=.seq #[.ref h.objs.size,.ref (h.objs.size+1)]}).objs.size=h.objs.size+3:=by rw[Az,t2]
 have t4:((((h.push (ztO a)).push (zlO b)).push {cls:=.type "tuple",data:=.seq #[.ref h.objs.size,.ref (h.objs.size+1)]}).push {cls:=.type "tuple",data:=.seq #[.none,.none]}).objs.size=h.objs.size+4:=by rw[Az,t3]
 unfold ztlH
 refine⟨?_,?_,?_,⟨_,P _ _ (P _ _ (P _ _ (P _ _ (Ai _ rfl)))),rfl,rfl⟩,⟨zlO b,?_,rfl,rfl⟩,λc o e=>P _ _ (P _ _ (P _ _ (P _ _ (P _ _ e))))⟩
 ·rw[<-t4];exact Ai _ rfl
 ·rw[<-t2];exact P _ _ (P _ _ (Ai _ rfl))
 ·rw[<-t3];exact P _ _ (Ai _ rfl)
 ·rw[<-t1];exact P _ _ (P _ _ (P _ _ (Ai _ rfl)))
theorem jju(a b:Addr)(va vb:Array Value) :
  Meets (Builtin.«zip.__new__» ⟨[.type "zip",.ref a,.ref b],[]⟩) (λ_ R s=>s.heap.IsTuple a va/\s.heap.IsList b vb/\R (.ok (.ret (.ref (s.heap.objs.size+4)))) {s with heap:=ztlH s.heap a b}) :=
 .of_wp λprog w A R s h=>by
  obtain⟨hp,g,d,tk,os⟩:=s
  obtain⟨ha,hb,h⟩:=h
  have hsub:=sub_zip
  have hb':(Heap.push hp (ztO a)).IsList b vb:=hb.push _
  have t1:(hp.push (ztO a)).objs.size=hp.objs.size+1:=by rw[Az]
  have t2:((hp.push (ztO a)).push (zlO b)).objs.size=hp.objs.size+2:=by rw[Az,t1]
  wp_walk using Wu ha,O3 hb'
  refine⟨_,rfl,?_⟩
  simp only[Az]
  exact h
theorem call_zipTL{prog:Program}{w:World}{A:Around}{E:Value->Shared->Prop}{s:Shared}{a b:Addr}{va vb:Array Value}{Q:Value->Shared->Prop}(ha:s.heap.IsTuple a va)(hb:s.heap.IsList b vb)
  (q:∀h',ZTLM s.heap h' a b->Q (.ref (s.heap.objs.size+4)) {s with heap:=h'}):wpAny (model prog w) A (call (.type "zip") [.ref a,.ref b]) Q E s:=by
 refine callType_new PySem.F.called_zip (by decide) (PySem.F.typeCall_zip_2 _ _) (PySem.F.newCall_zip_2 _ _) (λobj=>PySem.F.args_object_init_3 obj _ _) PySem.F.entry_zip_new (jju a b va vb) ⟨ha,hb,?_⟩
 have m:=jqa s.heap a b
 exact⟨⟨_,m.z,rfl⟩,q _ m⟩
end
def ItZM(K:PySem.W.Frag)(a b:Addr):It:=⟨λi H=>∃xs ys x y,SqT K H a xs/\H b=some (.lst ys)/\xs[i]?=some x/\ys[i]?=some y,
 λi H v H'=>∃T x y,H T=none/\v=.ref T/\(∀xs,SqT K H a xs->xs[i]?=some x)/\(∀ys,H b=some (.lst ys)->ys[i]?=some y)/\H'=upd H T (.tup [x,y]),λi H=>∃xs ys,SqT K H a xs/\H b=some (.lst ys)/\i=min xs.length ys.length⟩
section
variable{P:Program}{w:World}{K:PySem.W.Frag}
def ZTM(a b z TI TO i1 i2:Addr)(i:Nat)(h:Heap):Prop:=IsZip h z TI TO .none/\IsPair h TI (.ref i1) (.ref i2)/\(∃x y,IsPair h TO x y)/\h.IsTupleIter i1 a i/\h.IsListIter i2 b i
theorem ZTM.tys{a b z TI TO i1 i2:Addr}{i:Nat}{h:Heap}(t:ZTM a b z TI TO i1 i2 i h):∀c∈[z,TI,TO,i1,i2],∃o,h.get? c=some o/\(∀v,o.data≠.cell v):=by
 obtain⟨e0,e1,⟨x,y,e2⟩,⟨o3,e3,_,d3⟩,⟨o4,e4,_,d4⟩⟩:=t
 intro c hc
 simp only[Ar,Ae,Yh]at hc
 rcases hc with rfl|rfl|rfl|rfl|rfl
 ·exact⟨_,e0,λv q=>by cases q⟩
 ·exact⟨_,e1,λv q=>by cases q⟩
 ·exact⟨_,e2,λv q=>by cases q⟩
 ·exact⟨_,e3,λv q=>by rw[d3]at q;cases q⟩
 ·exact⟨_,e4,λv q=>by rw[d4]at q;cases q⟩
theorem jly{elts:List Expr}{kk:Nat}{pos:Pos}(a b z TI TO i1 i2:Addr)(D:ZA z TI TO i1 i2 [i1] [i2]):Turn P w K (.Tuple elts kk pos) (ItZM K a b) [z,TI,TO,i1,i2] z (ZTM a b z TI TO i1 i2) where
 mem:=by simp
 obj:=λi h st c hc=>st.tys c hc
 keep:=λi h h' st k=>by
  obtain⟨e0,e1,⟨x,y,e2⟩,⟨o3,e3,r3⟩,⟨o4,e4,r4⟩⟩:=st
  exact⟨k z (by simp) _ e0,k TI (by simp) _ e1,⟨x,y,k TO (by simp) _ e2⟩,⟨o3,k i1 (by simp) _ e3,r3⟩,⟨o4,k i2 (by simp) _ e4,r4⟩⟩
 item:=by
  intro X hP hw hK hc i pins s σ H E I hf st hg
  subst hP hw hK
  obtain⟨xs,ys,x',y',hx,hy,gx,gy⟩:=hg
  obtain⟨va,ra,pa,_⟩:=I.tuple hx
  have n1:∀d∈[z,TI,TO,i1,i2],d≠a:=λd hd=>I.apartT hx (hf d hd)
  obtain⟨vb,rb,pb,_⟩:=I.list (SqL.of hy)
  obtain⟨u,hu,ru⟩:=ra.get gx
  obtain⟨v,hv,rv⟩:=rb.get gy
  have nin:∀c ys,H c=some (.lst ys)->∀d∈[z,TI,TO,i1,i2],d≠c:=λc ys q d hd e=>by
   rw[<-e,(hf d hd).1]at q;cases q
  have h0:X.A.in1.handled=none:=I.ok.hd hc
  have W:=jdn (A:=X.A) (jl9 (prog:=X.prog) (w:=X.w) h0 i1 a (n1 i1 (by simp)).symm va.toArray) (Yv (prog:=X.prog) (w:=X.w) h0 i2 b (nin b ys hy i2 (by simp)).symm vb.toArray) (je1 D n1 (nin b ys hy))
  have la:i<va.toArray.size:=by rw[Aj];exact(Ag.mp hu).1
  have lb:i<vb.toArray.size:=by rw[Aj];exact(Ag.mp hv).1
  refine W.item i s _ _ (by omega) ⟨st.1,st.2.1,st.2.2.1,⟨st.2.2.2.1,pa⟩,⟨st.2.2.2.2,pb.isList⟩⟩ λT vs h' tk hp hT htup mid kk'=>⟨_,rfl,?_⟩
  have nT:=W.apart _ _ _ mid
  refine W.go _ _ _ i T {s with heap:=h',toks:=tk} _ _ mid λh'' st'' k''=>?_
  have tup':IsTup h'' T vs:=let⟨o,eo,r⟩:=htup;⟨o,k'' T o nT eo,r⟩
  have hv':Vals [x',y'] vs.toList:=by
   obtain⟨x1,y1,p1,p2,rfl⟩:=hp
   rw[show va.toArray[i]?=some u from by simpa using hu]at p1
   rw[show vb.toArray[i]?=some v from by simpa using hv]at p2
   cases p1
   cases p2
   exact .cons ru (.cons rv .nil)
  have Z':ZTM a b z TI TO i1 i2 (i+1) h'':=⟨st''.1,st''.2.1,st''.2.2.1,st''.2.2.2.1.1,st''.2.2.2.2.1⟩
  refine⟨.ref T,upd H T (.tup [x',y']),?_,rfl,⟨T,x',y',I.hok.fresh hT,rfl,λzs q=>by rw[I.tuple_inj q hx];exact gx,λzs q=>by rw[hy]at q;cases q;exact gy,rfl⟩,Z',λc hb=>?_⟩
  ·refine I.turnedNew (fp:=[z,TI,TO,i1,i2]) (wr:=[z,TO,i1,i2]) (λc hb=>hf c (by simp at hb⊢;rcases hb with r|r|r|r <;> simp[r])) (λc o hb eo=>k'' c o hb (kk' c o hb eo)) hT (by simpa using tup') hv' (by show 2<=sizeLine;decide) λc hb=>?_
   obtain⟨o,eo,_⟩:=Z'.tys c (by simp at hb⊢;rcases hb with r|r|r|r <;> simp[r])
   exact⟨o,eo⟩
  ·obtain⟨o,eo,_⟩:=st.tys c hb
   rw[jd (Ao (A0 (Al eo) hT))]
   exact(hf c hb).1
 done:=by
  intro X hP hw hK hc i pins s σ H E I hf st hg
  subst hP hw hK
  obtain⟨xs,ys,hx,hy,hi⟩:=hg
  obtain⟨va,ra,pa,_⟩:=I.tuple hx
  have n1:∀d∈[z,TI,TO,i1,i2],d≠a:=λd hd=>I.apartT hx (hf d hd)
  obtain⟨vb,rb,pb,_⟩:=I.list (SqL.of hy)
  have nin:∀c ys,H c=some (.lst ys)->∀d∈[z,TI,TO,i1,i2],d≠c:=λc ys q d hd e=>by
   rw[<-e,(hf d hd).1]at q;cases q
  have h0:X.A.in1.handled=none:=I.ok.hd hc
  have W:=jdn (A:=X.A) (jl9 (prog:=X.prog) (w:=X.w) h0 i1 a (n1 i1 (by simp)).symm va.toArray) (Yv (prog:=X.prog) (w:=X.w) h0 i2 b (nin b ys hy i2 (by simp)).symm vb.toArray) (je1 D n1 (nin b ys hy))
  have hn:min va.toArray.size vb.toArray.size=i:=by rw[Aj,Aj,<-ra.length,<-rb.length];exact hi.symm
  refine W.done s _ _ (by rw[hn];exact⟨st.1,st.2.1,st.2.2.1,⟨st.2.2.2.1,pa⟩,⟨st.2.2.2.2,pb.isList⟩⟩) λh' tk kk'=>⟨rfl,?_⟩
  have hf':∀c∈[z,TO,i1,i2],FpOk X pins H c:=λc hb=>hf c (by simp at hb⊢;rcases hb with r|r|r|r <;> simp[r])
  exact I.walked hf' kk'
 self:=λA i s Q E st q=>Wn st.1 q
end
theorem jo2{K:PySem.W.Frag}{a b:Addr}{xs ys:List V}{g:TG}{tb:TS}{D:Ends}{σ:L2.St}{H:Hp}(Pv:Nat->L2.St->Hp->Prop)(h0:Pv 0 σ H)(hl:ys.length=xs.length)(ha:∀i σ H,i<=xs.length->Pv i σ H->SqT K H a xs/\H b=some (.lst ys))
  (hs:∀i x y σ H T,xs[i]?=some x->ys[i]?=some y->Pv i σ H->H T=none->g (.ref T) σ (upd H T (.tup [x,y])) λσ2 H2=>tb {D with nx:=Pv (i+1),ct:=Pv (i+1),bk:=D.nx} σ2 H2) (hd:∀σ H,Pv xs.length σ H->D.nx σ H):jcn (ItZM K a b) g tb D σ H:=by
 refine⟨λi m σ H=>m+i=xs.length/\Pv i σ H,⟨xs.length,rfl,h0⟩,?_⟩
 rintro i m σ H ⟨hm,p⟩
 obtain⟨e1,e2⟩:=ha i σ H (by omega) p
 by_cases hi:i<xs.length
 ·refine .inr ⟨⟨xs,ys,xs[i],ys[i],e1,e2,by simp[hi],by simp[hl,hi]⟩,Pv (i+1),λσ' H' p'=>⟨m-1,by omega,by omega,p'⟩,λv H' q=>?_⟩
  obtain⟨T,x,y,hT,rfl,q1,q2,rfl⟩:=q
  exact hs i x y σ H T (q1 xs e1) (q2 ys e2) p hT
 ·have e:i=xs.length:=by omega
  subst e
  exact .inl ⟨⟨xs,ys,e1,e2,by omega⟩,hd σ H p⟩
section
variable{X:Cx}
def jk6(K:PySem.W.Frag)(ta:TA):TI:=λσ H R=>ta σ H λvs H1=>∃a b xs ys,vs=[.ref a,.ref b]/\SqT K H1 a xs/\H1 b=some (.lst ys)/\R (ItZM K a b) H1
theorem qpi_zipM{K:PySem.W.Frag}(hK:X.K=K){a b:Expr}{ta:TA}{p pos tpos:Pos}{elts:List Expr}{kk:Nat}(hg:Gl X "zip")(hm:X.mg "zip"=none)(ha:QA X [a,b] ta)(hs:starEach [a,b] X.env=[(false,eval a X.env),(false,eval b X.env)]:=by rfl)(hs2:starEach [b] X.env=[(false,eval b X.env)]:=by rfl) :
  QI X (.Tuple elts kk tpos) (.Call (.Name "zip" p) [a,b] [] pos) (jk6 K ta):=by
 subst hK
 refine⟨λpins s σ H R I h=>?_⟩
 refine Call_ (jdj I hg hm jcd (Uf (thn (ha.h pos pins s σ H _ I h) λus s1 ⟨vs,H1,I1,r1,q1⟩=>?_) (by rw[hs,hs2]) (by rw[hs2];rfl)))
 obtain⟨c,d,xs,ys,rfl,ec,ed,q⟩:=q1
 obtain⟨u1,u2,rfl,ru,rv⟩:=jia r1
 cases ru
 cases rv
 obtain⟨va,ra,pa,_⟩:=I1.tuple ec
 obtain⟨vb,rb,pb,_⟩:=I1.list (SqL.of ed)
 refine call_zipTL pa pb.isList λh' M=>?_
 have I2:Inv X pins σ H1 {s1 with heap:=h'}:=I1.kept (t':=s1.toks) M.old
 have D:ZA (s1.heap.objs.size+4) (s1.heap.objs.size+2) (s1.heap.objs.size+3) s1.heap.objs.size (s1.heap.objs.size+1) [s1.heap.objs.size] [s1.heap.objs.size+1]:=by
  constructor <;> simp <;> omega
 refine Wn M.z ⟨s1.heap.objs.size+4,_,_,_,H1,rfl,I2,jly c d _ _ _ _ _ D,⟨M.z,M.ti,⟨_,_,M.to⟩,M.i1,M.i2⟩,λb hb=>?_,q⟩
 have hb':s1.heap.objs.size<=b:=by
  simp only[Ar,Ae,Yh]at hb
  rcases hb with rfl|rfl|rfl|rfl|rfl <;> first|exact Af _|exact Nat.le_add_right _ _
 exact I1.fpOk (H':=H1) hb' (I1.hok.fresh hb')
end
section
variable{D:Addr}{te:TE}{r:L2.St}{E:Ends}{H:Hp}
theorem jos{a b:Addr}{xs ys:List V}(f:V->V->V)(ha:H a=some (.lst xs))(hb:H b=some (.lst ys))(hl:ys.length=xs.length)(hD:H D=none)(hz:xs.length<=sizeLine)
  (he:∀(i:Nat)(x y:V),xs[i]?=some x->ys[i]?=some y->∀H' l Q,H' D=some (.lst l)->Kp [D] (upd H D (.lst [])) H'->(∀H',H' D=some (.lst l)->Kp [D] (upd H D (.lst [])) H'->Q (f x y) H')->te (some x::some y::r) H' Q)
  (hn:∀v v' H',H' D=some (.lst (List.zipWith f xs ys))->Kp [D] (upd H D (.lst [])) H'->E.nx (v::v'::r) H') {g:TG} (hg:∀T σ H' x y Q,H' T=some (.tup [x,y])->(∃v v',σ=v::v'::r)->Q (some x::some y::r) H'->g (.ref T) σ H' Q) :
  jcn (ItZL a b) g (jc3 D te) E (none::none::r) (upd H D (.lst [])):=by
 have na:a≠D:=je ha hD
 have nb:b≠D:=je hb hD
 refine jo1 (xs:=xs) (ys:=ys) (λi σ H'=>(∃v v',σ=v::v'::r)/\H' D=some (.lst (List.zipWith f (xs.take i) (ys.take i)))/\Kp [D] (upd H D (.lst [])) H') ⟨⟨none,none,rfl⟩,by simp[jb],Kp.refl _ _⟩ hl ?_ ?_ ?_
 ·rintro i σ H' _ ⟨_,_,k⟩
  exact⟨k.old _ _ (by rw[jd na];exact ha) (by simpa using na),k.old _ _ (by rw[jd nb];exact hb) (by simpa using nb)⟩
 ·rintro i x y σ H' T hx hy ⟨hσ,hd,k⟩ hT
  have hi:i<xs.length:=(Ag.mp hx).1
  have nT:D≠T:=je hd hT
  refine hg T σ _ x y _ jb hσ (he i x y hx hy _ (List.zipWith f (xs.take i) (ys.take i)) _ (by rw[jd nT];exact hd) (k.new hT) λH2 hd2 k2=>⟨_,by rw[hd2];rfl,by simp;omega,⟨_,_,rfl⟩,?_,k2.set hd2 (.inl (.head _))⟩)
  rw[jb,O2,O2,hx,hy,List.zipWith_append (by rw[A5,A5];omega)]
  rfl
 ·rintro σ H' ⟨⟨v,v',rfl⟩,hd,k⟩
  rw[Iq (Af _),Iq (by omega)]at hd
  exact hn v v' H' hd k
end
section
variable{X:Cx}
def rEqK:R2:=λx y H Q=>match x,y with
 |.ref a,.ref b=>∃kvs:List (Key×Int),(kvs.map Prod.fst).Nodup/\H a=some (.dK (kvs.map kI))/\H b=some (.dK (kvs.map kI))/\Q (.bl true) H
 |_,_=>False
theorem op_eqK(hu:X.A.units+64<cLine):OpR X (compareOp .Eq) rEqK:=by
 intro pins s σ H x y v u Q I rx ry h
 unfold rEqK at h
 split at h
 ·rename_i a b
  obtain⟨kvs,nd,ea,eb,q⟩:=h
  cases rx
  cases ry
  obtain⟨_,ha,va,ra,da⟩:=jfm I.hok ea
  obtain⟨_,hb,vb,rb,db⟩:=jfm I.hok eb
  have hl:va.length=vb.length:=by rw[<-Au ra,<-Au rb]
  refine PySem.W.keq_eq (r:=true) ha hb da db (by omega) (λ_=>jj8 rb nd ra λ_ h=>h) ?_
  rw[hl]
  exact⟨.bl true,H,I,by simp[RelV],q⟩
 ·exact h.elim
end
section
variable{X:Cx}
theorem FzT.stay{S:List Addr}{H H':Hp}{a:Addr}{xs:List V}(h:FzT H a xs)(k:Kp S H H')(n:∀b∈S,∃o,H b=some o/\∀ob u,o≠.frz ob u):FzT H' a xs:=by
 refine h.kp k λm=>?_
 obtain⟨o,e,z⟩:=n a m
 obtain⟨ob,_,e'⟩:=h
 rw[e]at e'
 exact z _ _ (Av e')
theorem FzT.kp0{H H':Hp}{a:Addr}{xs:List V}(h:FzT H a xs)(k:Kp [] H H'):FzT H' a xs:=h.kp k (by simp)
def jlv(t:TA):TE:=λσ H Q=>t σ H λvs H1=>vs.length<=sizeLine/\∀p H',H1 p=none->FzT H' p vs->Kp [] H1 H'->Q (.ref p) H'
theorem jbx{es:List Expr}{x1:Nat}{pos:Pos}{t:TA}(h:QA X es t):QE X (.Tuple es x1 pos) (jlv t):=by
 refine⟨λpins s σ H Q I hq=>?_⟩
 refine wpAny_Tuple_spliced (thn (h.h pos pins s σ H _ I hq) λus s1 ⟨xs,H1,I1,r,z,q⟩=>⟨by rw[<-r.length];exact z,?_⟩)
 have hf:H1 s1.heap.objs.size=none:=I1.hok.fresh (Af _)
 have I2:=I1.laid (t':=s1.toks) (a:=s1.heap.objs.size) (o:=.frz {cls:=.type "tuple",data:=.seq us.toArray} (.tup xs)) (h':=s1.heap.push {cls:=.type "tuple",data:=.seq us.toArray}) (λb u e=>Ac _ e) (Af _)
  (show ObjOk X.prog X.w _ _ _ (.frz _ (.tup xs))from⟨Ai _ rfl,z,us,r,⟨_,Ai _ rfl,rfl,_,rfl⟩⟩)
 exact⟨.ref s1.heap.objs.size,_,I2,rfl,q _ _ hf ⟨_,rfl,jb⟩ ((Kp.refl [] H1).new hf)⟩
def jqi:R2:=λx y H Q=>∃a b xs ys,x=.ref a/\y=.ref b/\FzT H a xs/\FzT H b ys/\xs.length+ys.length<=sizeLine/\∀p H',Kp [] H H'->FzT H' p (xs++ys)->Q (.ref p) H'
theorem op_addF:OpR X (binaryOp .Add) jqi:=by
 intro pins s σ H x y v u Q I rx ry h
 obtain⟨a,b,xs,ys,rfl,rfl,ha,hb,hz,q⟩:=h
 cases rx
 cases ry
 obtain⟨its,r1,p1,_⟩:=I.tuple (ha.sq (K:=X.K))
 obtain⟨its2,r2,p2,_⟩:=I.tuple (hb.sq (K:=X.K))
 by_cases hx:xs=[]
 ·subst hx
  cases r1
  obtain⟨⟨cls,dd,data,sl⟩,ho,hc,n,hd⟩:=id p1
  obtain⟨⟨cls2,dd2,data2,sl2⟩,ho2,hc2,n2,hd2⟩:=id p2
  simp only at hc hd hc2 hd2
  subst hc hd hc2 hd2
  exact concat_meets ⟨_,ho,rfl⟩ ⟨_,ho2,rfl⟩ Ye Y6 Wi Wf (U8 _ _)
   (HT.tuple_add0 a b its2.toArray n n2 dd dd2 sl sl2) ⟨ho,ho2,.ref b,H,I,rfl,q b H (Kp.refl _ _) (by simpa using hb)⟩
 ·refine HT.cat_tup p1 p2 (λz=>hx (r1.nil_iff.mp z)) (λz=>⟨.ref a,H,I,rfl,q a H (Kp.refl _ _) (by rw[r2.nil_iff.mp z,Ug];exact ha)⟩) (λz=>?_) (by rw[<-r1.length,<-r2.length];exact hz)
  have hf:=I.hok.fresh (Af s.heap.objs.size)
  refine⟨.ref s.heap.objs.size,_,I.laid (t':=s.toks) (a:=s.heap.objs.size) (o:=.frz {cls:=.type "tuple",data:=.seq (its++its2).toArray} (.tup (xs++ys))) (λb ob q=>Ac _ q) (Af _) ?_,rfl,q _ _ ((Kp.refl [] H).new hf) ⟨_,rfl,jb⟩⟩
  exact⟨Ai _ rfl,by rw[Aw];exact hz,_,r1.append r2,IsTup.new _ _⟩
def jn0:V->List V->Hp->VK->Prop:=λx vs H Q=>∃l b xs zs,x=.ref l/\vs=[.ref b]/\H l=some (.lst xs)/\FzT H b zs/\xs.length+zs.length<=sizeLine/\Q .non (upd H l (.lst (xs++zs)))
theorem mt_extendF:MtM X "list.extend" jn0:=by
 intro pins s σ H x vs v us Q I rx rv h
 obtain⟨l,b,xs,zs,rfl,rfl,hH,hB,hz,q⟩:=h
 cases rx
 obtain⟨u,rfl,ru⟩:=rv.one
 cases ru
 obtain⟨z,its,n,r,hl,e⟩:=I.lstM hH
 obtain⟨its2,r2,⟨o2,g2,c2,n2,d2⟩,z2⟩:=I.tuple (hB.sq (K:=X.K))
 have h1:=r.length
 have h2:=r2.length
 have hT:s.TypeIs (.ref l) "list":=⟨_,e,rfl⟩
 have hlong:(!its.toArray.isEmpty && Builtin.List.listTooLong (its.toArray.size+its2.toArray.size))=false:=by
  rw[jit (by rw[Aj,Aj];omega),Bool.and_false]
 refine Op PySem.F.slot_list_extend hT PySem.F.entry_list_extend ?_ (PySem.F.args_list_extend_2 _ _)
 refine show wpAny _ _ (Builtin.List.listExtendWith (.ref l) (.ref b) .none) _ _ s from ?_
 unfold Builtin.List.listExtendWith
 refine Aa (U9 (T:="tuple") ⟨o2,g2,c2⟩ (Oo (λ_=>?_) (λq=>absurd (by simp) q)))
 refine Aa (listItems_at g2 d2 (Aa (listItems_at e rfl (Oo (λq=>absurd q (by rw[hlong];decide)) (λ_=>?_)))))
 refine Aa (listUpdate_at e rfl (Ab ?_) (by rw[Aj];omega) (by rw[Array.size_append,Aj,Aj];omega))
 exact⟨_,rfl,.non,_,I.lset (its':=its++its2) (t':=s.toks) hH e (by simp) (r.append r2) (by rw[Aw];omega),rfl,q⟩
end
section
variable{D:Addr}{te:TE}{r:L2.St}{E:Ends}{H:Hp}
theorem jgr{K:PySem.W.Frag}{a:Addr}{xs:List V}(f:V->V)(ha:FzT H a xs)(hD:H D=none)(hz:xs.length<=sizeLine)(he:∀x∈xs,∀l Q,Q (f x) (upd H D (.lst l))->te (some x::r) (upd H D (.lst l)) Q)
  (hn:∀v,E.nx (v::r) (upd H D (.lst (xs.map f)))):jcn (Itt K a) (jco 0) (jc3 D te) E (none::r) (upd H D (.lst [])):=by
 refine jmo (xs:=xs) (λi σ H'=>∃v:Option V,σ=v::r/\H'=upd H D (.lst ((xs.take i).map f))) ⟨none,rfl,rfl⟩ ?_ ?_ ?_
 ·rintro i σ H' _ ⟨v,_,rfl⟩
  exact(ha.kp ((Kp.refl [] H).new hD) (by simp)).sq
 ·rintro i x σ H' hx ⟨v,rfl,rfl⟩
  have hl:i<xs.length:=(Ag.mp hx).1
  refine he x (A6 hx) _ _ ⟨_,by rw[jb];rfl,by simp;omega,some x,rfl,?_⟩
  rw[je0,O2,hx]
  simp
 ·rintro σ H' ⟨v,rfl,rfl⟩
  rw[Iq (Af _)]
  exact hn v
end
end L2
namespace My
open PySem
def toS(l:List Nat):Str:=⟨l.toArray⟩
theorem jpg(l:List Nat)(c:Nat):toS l++(⟨#[c]⟩:Str)=toS (l++[c]):=by
 show(⟨l.toArray++#[c]⟩:Str)=⟨(l++[c]).toArray⟩
 simp
theorem jgk(l:List Nat):(toS l).length=l.length:=by simp[toS,Str.length]
end My
namespace My
open PySem L2 PyProof.Rows
def sg(z:Str):List Nat:=z.cps.toList
theorem jmz(x y:Str):sg (x++y)=sg x++sg y:=by simp[sg,Str.cps_append]
theorem joh:∀l:List Str,sg (Str.join ⟨#[]⟩ l)=(l.map sg).flatten
 |[]=>rfl
 |x::l=>by rw[join_nil_cons,jmz,joh l];rfl
theorem joi(l:List Str):sg (Txt.join (Str.ofString "") l)=(l.map sg).flatten:=by
 have e0:(Str.ofString "")=(⟨#[]⟩:Str):=by decide +kernel
 have e:=eq_of_beq (join_plain_closes ⟨#[]⟩ l)
 rw[e0,e,joh]
theorem joz{α:Type}{xs:List α}{x:α}(h:xs[xs.length-1]?=some x):xs=xs.dropLast++[x]:=by
 have hne:xs≠[]:=by rintro rfl;simp at h
 have e:=List.dropLast_concat_getLast hne
 have e2:xs.getLast hne=x:=by
  rw[List.getLast_eq_getElem hne]
  have:=(Ag.mp h).2
  exact this
 rw[<-e2,e]
theorem jfj{α:Type}{xs:List α}{v:α}(h:xs[xs.length-1]?=some v):atI xs (-1)=some v:=by
 rw[joz h]
 exact jng _ _
end My
namespace My
open PySem L2
def allC(m:Nat):Nat->List (List Nat)
 |0=>[[]]
 |n+1=>(allC m n).flatMap λc=>(List.range m).map λp=>c++[p]
def num(m:Nat)(c:List Nat):Nat:=c.foldl (λa p=>a*m+p) 0
theorem jiu(m:Nat)(c:List Nat)(p:Nat):num m (c++[p])=num m c*m+p:=by simp[num]
theorem jfa{α β:Type}(f:α->List β)(m:Nat):∀l:List α,(∀x∈l,(f x).length=m)->(l.flatMap f).length=l.length*m
 |[],_=>by simp
 |x::l,h=>by
  rw[W8,Aw,h x (.head _),jfa f m l λy hy=>h y (.tail _ hy),List.length_cons,Wv,Nat.add_comm]
theorem jc9{m:Nat}:∀{n:Nat}{c:List Nat},c∈allC m n->c.length=n/\∀p∈c,p<m
 |0,c,h=>by
  rw[Ah.mp h]
  exact⟨rfl,λ_ h=>nomatch h⟩
 |n+1,c,h=>by
  obtain⟨d,hd,h⟩:=List.mem_flatMap.mp h
  obtain⟨p,hp,rfl⟩:=Ay.mp h
  obtain⟨h1,h2⟩:=jc9 hd
  refine⟨by simp[h1],λq hq=>?_⟩
  rcases Is.mp hq with h|h
  ·exact h2 q h
  ·rw[Ah.mp h];exact Ub.mp hp
theorem jc4(m:Nat):∀n,(allC m n).length=m^n
 |0=>rfl
 |n+1=>by
  show(List.flatMap _ (allC m n)).length=_
  rw[jfa _ m _ λx _=>by simp,jc4 m n,Nat.pow_succ]
theorem jgu{α β:Type}(f:α->List β)(m:Nat):∀(l:List α)(q:Nat),(∀x∈l,(f x).length=m)->(l.flatMap f).drop (q*m)=(l.drop q).flatMap f
 |l,0,_=>by simp
 |[],q+1,_=>by simp
 |x::l,q+1,h=>by
  rw[W8,List.drop_succ_cons,<-jgu f m l q λy hy=>h y (.tail _ hy),Wv,Nat.add_comm,<-List.drop_drop,List.drop_append_of_le_length (by rw[h x (.head _)];exact Af _),(show(f x).drop m=[]from List.drop_of_length_le (by rw[h x (.head _)];exact Af _)),List.nil_append]
theorem jil{α β:Type}(f:α->List β)(m:Nat){l:List α}{q:Nat}{x:α}(h:∀x∈l,(f x).length=m)(e:l[q]?=some x):((l.flatMap f).drop (q*m)).take m=f x:=by
 obtain⟨hq,e⟩:=Ag.mp e
 rw[jgu f m l q h,List.drop_eq_getElem_cons hq,e,W8]
 have:=h x (e▸Ov hq)
 rw[List.take_append_of_le_length (by omega),Iq (by omega)]
theorem jow{α β:Type}(f:α->List β)(m:Nat){l:List α}{q p:Nat}{x:α}(h:∀x∈l,(f x).length=m)(e:l[q]?=some x)(hp:p<m):(l.flatMap f)[q*m+p]?=(f x)[p]?:=by
 rw[<-jil f m h e,Uy,Ap hp,List.getElem?_drop]
theorem jlm{α:Type}{M:List α->Prop}(h0:M [])(h1:∀l x,M l->M (l++[x])):∀l,M l:=by
 intro l
 rw[<-List.reverse_reverse l]
 induction l.reverse with
 |nil=>exact h0
 |cons x l ih=>rw[List.reverse_cons];exact h1 _ _ ih
theorem jf6(m:Nat):∀c:List Nat,(∀p∈c,p<m)->(allC m c.length)[num m c]?=some c:=jlm (λ_=>rfl) λc p ih h=>by
 have e:=ih λq hq=>h q (Uc _ hq)
 have hp:p<m:=h p (by simp)
 rw[jiu,Aw]
 show(List.flatMap _ (allC m c.length))[_]?=_
 rw[jow _ m (λx _=>by simp) e hp,Ax,List.getElem?_range hp]
 rfl
def asg(F:List Str)(c:List Nat)(x:Str):Nat:=c.getD (F.idxOf x) 0
theorem jf7{F:List Str}{g:Str->Nat}{x:Str}(h:x∈F):asg F (F.map g) x=g x:=by
 have hi:=Oq h
 unfold asg
 rw[Ak,Ax,Am hi,List.getElem_idxOf]
 rfl
theorem jl0{F:List Str}{c:List Nat}{m:Nat}{x:Str}(hl:c.length=F.length)(h:∀p∈c,p<m)(hx:x∈F):asg F c x<m:=by
 have hi:=Oq hx
 unfold asg
 rw[Ak,Am (by omega)]
 exact h _ (Ov _)
def up(ρ:Str->Nat)(x:Str)(p:Nat):Str->Nat:=λy=>if y=x then p else ρ y
theorem jpi{M:List Str}{c:List Nat}{x y:Str}{p:Nat}(hl:c.length=M.length)(hx:x∉M)(hy:y∈M++[x]):asg (M++[x]) (c++[p]) y=up (asg M c) x p y:=by
 unfold asg up
 by_cases e:y=x
 ·subst e
  rw[Ap rfl,List.idxOf_append,At hx]
  simp[<-hl]
 ·have hm:y∈M:=by
   rcases Is.mp hy with h|h
   ·exact h
   ·exact absurd (Ah.mp h) e
  have hi:=Oq hm
  rw[At e]
  show _=c.getD (M.idxOf y) 0
  rw[List.idxOf_append,Ap hm,Ak,Ak,Oj (by omega)]
def Dep(f:(Str->Nat)->Bool)(F:List Str):Prop:=∀ρ ρ':Str->Nat,(∀x∈F,ρ x=ρ' x)->f ρ=f ρ'
theorem Dep.mono{f:(Str->Nat)->Bool}{F G:List Str}(h:Dep f F)(hs:∀x∈F,x∈G):Dep f G:=λρ ρ' e=>h ρ ρ' λx hx=>e x (hs x hx)
def tab(m:Nat)(F:List Str)(f:(Str->Nat)->Bool):List Bool:=(allC m F.length).map λc=>f (asg F c)
theorem jey(m:Nat)(F:List Str)(f:(Str->Nat)->Bool):(tab m F f).length=m^F.length:=by rw[tab,Ad,jc4]
theorem jm5{m:Nat}{F:List Str}{f:(Str->Nat)->Bool}(ρ:Str->Nat)(hf:Dep f F)(h:∀x∈F,ρ x<m):(tab m F f)[num m (F.map ρ)]?=some (f ρ):=by
 have e:=jf6 m (F.map ρ) (λp hp=>by obtain⟨x,hx,rfl⟩:=Ay.mp hp;exact h x hx)
 rw[Ad]at e
 unfold tab
 rw[Ax,e]
 exact Ob some (hf _ _ λx hx=>jf7 hx)
def nums(m:Nat)(F M:List Str):List Nat:=(allC m M.length).map λc=>num m (F.map (asg M c))
theorem joa{m:Nat}{F M:List Str}{f:(Str->Nat)->Bool}{c:List Nat}(hf:Dep f F)(hs:∀x∈F,x∈M)(hc:c∈allC m M.length):(tab m F f)[num m (F.map (asg M c))]?=some (f (asg M c)):=by
 obtain⟨h1,h2⟩:=jc9 hc
 exact jm5 _ hf λx hx=>jl0 h1 h2 (hs x hx)
theorem jpc{m:Nat}{M:List Str}{x:Str}{f:(Str->Nat)->Bool}{q:Nat}{c:List Nat}(hf:Dep f (M++[x]))(hx:x∉M)(e:(allC m M.length)[q]?=some c):((tab m (M++[x]) f).drop (q*m)).take m=(List.range m).map λp=>f (up (asg M c) x p):=by
 have hc:=jc9 (A6 e)
 have et:tab m (M++[x]) f=(allC m M.length).flatMap λc=>(List.range m).map λp=>f (asg (M++[x]) (c++[p])):=by
  unfold tab
  rw[Aw]
  show((allC m (M.length+1)).map _)=_
  simp only[allC,List.map_flatMap,Ip]
  rfl
 rw[et,jil _ m (λx _=>by simp) e]
 exact We λp _=>hf _ _ λy hy=>jpi hc.1 hx hy
theorem jpy(m:Nat):∀c:List Nat,(∀p∈c,p<m)->num m c<m^c.length:=λc h=>by
 have:=(Ag.mp (jf6 m c h)).1
 rwa[jc4]at this
local macro_rules
 | `(tactic| simp!)=>`(tactic| simp only [tSeq,tIfS,jh9,tOp,tVar,tC,tAsg,jco,gSub,tRet,jh6,jh3,tAnd,tOr,tNot,jeu,tOrV,jh7,tB,jh1,rI0,rI,jg1,jg2,jg9,jha,ji3,ji4,ji2,ji1,jg7,jg6,jg5,ji0,jfy,jfx,jhb,jel,jiw,jkg,jiy,jix,ji5,jki,ji7,ji6,jkh,jhc,jka,jgx,jhj,jhf,jhg,Option.isSome_some,tBML,tCB,jev,tNil,tLst,tTup,tSl,jh8,jex,ji8,iAny,jhs,jhy,jkr,jdx,jdo,jcw,tUn,rU,tBMS,jkb,jiz,tBM,jks,jg3,jg4,Option.bind_some,Option.bind_none,Option.getD_some,L2.start,A9,Ww,List.length_cons,List.length_nil,List.cons_append,List.nil_append,Ug,List.cons.injEq,List.replicate,List.getElem?_cons_zero,List.getElem?_cons_succ,List.set_cons_zero,List.set_cons_succ,Nat.reduceSub,Nat.reduceAdd,Nat.reduceLeDiff,Option.some.injEq,V.int.injEq,V.bl.injEq,V.str.injEq,V.ref.injEq,HO.lst.injEq,HO.tup.injEq,exists_eq_left',exists_eq_left,exists_and_left,true_and,and_true,jb,jdb,jkv,jkw,jof,Yd,Bool.not_false,decide_eq_true_eq,Iw,O6,Uj,reduceIte,reduceCtorEq,jdm,jd4,jg8,jh5,jh4,jgj,jlt,jlh,jlu,jk6,jk5,jlv,iTup,jh2,jf3,jh0,jeu,tOrV])
 | `(tactic| simp! [$ls,*])=>`(tactic| simp only [tSeq,tIfS,jh9,tOp,tVar,tC,tAsg,jco,gSub,tRet,jh6,jh3,tAnd,tOr,tNot,jeu,tOrV,jh7,tB,jh1,rI0,rI,jg1,jg2,jg9,jha,ji3,ji4,ji2,ji1,jg7,jg6,jg5,ji0,jfy,jfx,jhb,jel,jiw,jkg,jiy,jix,ji5,jki,ji7,ji6,jkh,jhc,jka,jgx,jhj,jhf,jhg,Option.isSome_some,tBML,tCB,jev,tNil,tLst,tTup,tSl,jh8,jex,ji8,iAny,jhs,jhy,jkr,jdx,jdo,jcw,tUn,rU,tBMS,jkb,jiz,tBM,jks,jg3,jg4,Option.bind_some,Option.bind_none,Option.getD_some,L2.start,A9,Ww,List.length_cons,List.length_nil,List.cons_append,List.nil_append,Ug,List.cons.injEq,List.replicate,List.getElem?_cons_zero,List.getElem?_cons_succ,List.set_cons_zero,List.set_cons_succ,Nat.reduceSub,Nat.reduceAdd,Nat.reduceLeDiff,Option.some.injEq,V.int.injEq,V.bl.injEq,V.str.injEq,V.ref.injEq,HO.lst.injEq,HO.tup.injEq,exists_eq_left',exists_eq_left,exists_and_left,true_and,and_true,jb,jdb,jkv,jkw,jof,Yd,Bool.not_false,decide_eq_true_eq,Iw,O6,Uj,reduceIte,reduceCtorEq,jdm,jd4,jg8,jh5,jh4,jgj,jlt,jlh,jlu,jk6,jk5,jlv,iTup,jh2,jf3,jh0,jeu,tOrV,$ls,*])
def top(i:Nat):Stmt:=PySem.Challenge.pw_calmword_k34_holds.main.body.getD i (.Pass ⟨0,0,0,0⟩)
def BoxO(o:HO):Prop:=∃c s,o=.lst [.int c,.int s]/\1<=s/\s<=2147483629
def jc7:Sp:=λvs H Q _=>∃b w o,vs=[.ref b,.int w]/\H b=some o/\BoxO o/\0<w/\w<1073741824/\∀d o,0<=d->d<w->BoxO o->Q (.int d) (upd H b o)
def jom(K:PySem.W.Frag):Sp:=λvs H Q _=>∃(a:Addr)(k:Int)(ns:List Int),vs=[.ref a,.int k]/\SqL K H a (ns.map V.int)/\0<=k/\k<=1000/\∀b o,H b=none->BoxO o->Q (.ref b) (upd H b o)
section
variable{P:Program}{w:World}{K:PySem.W.Frag}{mg:Str->Option Value}{base:Heap}
abbrev j7:Stmt:=top 16
theorem jam:FnScope ["_law_box_here","_law_wide","_law_digit","_law_one"] ["_law_box_here","_law_wide"] (jh j7):=⟨rfl,rfl,rfl,by decide +kernel,rfl,by decide +kernel,by decide +kernel⟩
theorem ok__law_take{f:Addr}{fd:FuncData}(F:Fun K "_law_take" "_law_take" j7 f fd):FnOk P w K mg base CX0 1 f fd ["_law_box_here","_law_wide"] jc7:=by
 refine F.ok jam (λvs H Q E h=>?_) (λcdv A outer s H vs Q E hr h=>?_)
 ·obtain⟨b,w,o,rfl,_⟩:=h
  rfl
 ·obtain⟨b,w,o,rfl,hb,⟨c,sd,rfl,s1,s2⟩,w0,w1,k⟩:=h
  refine⟨_,(QSs.h (jg (j0 (jn ja5 (jk ix_U (qpv 0) jf (λ_ _=>rfl)) jf (jr _)) (jg (jl (i:=2) jam.nd rfl (by first|exact Or.inl rfl|exact Or.inr rfl) (jq zt (jk ix_U (qpv 0) jf (λ_ _=>rfl)) (qpv 1)))
  (jg (ja7 (jq jbg (jk ix_U (qpv 0) jf (λ_ _=>rfl)) (qpv 1)) (jbi (qpv 0) jf jli))
  (ji (jp (qpv 2))))) ju)
  (jg (jl (i:=3) jam.nd rfl (by first|exact Or.inl rfl|exact Or.inr rfl) (jq zt (jq y8 (jk ix_U (qpv 0) jf (λ_ _=>rfl)) jf) jf))
  (jg (ja7 (jq j8 (jq zt (jq j8 (jq y8 (qpv 3) jf) jf) jf) jf) (jbi (qpv 0) jf jli))
  (ji (jp (jq zt (jq jbg (jq j8 (jq y8 (qpv 3) jf) (jk ix_U (qpv 0) jf (λ_ _=>rfl))) jf) (qpv 1)))))))),?_⟩
  have m1:∀z m:Int,0<m->0<=z%m/\z%m<m:=λz m h=>⟨Int.emod_nonneg z (by omega),Y5 z h⟩
  simp! [hb]
  refine ite2 (λhc=>?_) (λ_=>?_)
  ·refine⟨w0,⟨w0,w1⟩,0,rfl,?_⟩
   simp! [hb]
   exact k _ _ (m1 c w w0).1 (m1 c w w0).2 ⟨_,_,rfl,s1,s2⟩
  ·have q1:=m1 (sd*69623) 2147483647 (by decide)
   refine⟨.inl ⟨by omega,by omega⟩,by decide,.inl ⟨by omega,by omega⟩,by decide,1,rfl,?_⟩
   simp! [hb]
   have q2:=m1 (sd*69623%2147483647*48271+30103) 2147483629 (by decide)
   refine⟨.inl ⟨by omega,by omega⟩,⟨by decide,by decide⟩,w0,?_⟩
   exact k _ _ (m1 _ w w0).1 (m1 _ w w0).2 ⟨_,_,rfl,by omega,by omega⟩
structure TBox(mg:Str->Option Value):Prop where
 n_len:mg "len"=none
 n_int:mg "int"=none
abbrev zk:Stmt:=top 15
theorem zw:FnScope ["_law_script","_law_k","_law_cell","_law_seed"] ["_law_script","_law_k"] (jh zk):=⟨rfl,rfl,rfl,by decide +kernel,rfl,by decide +kernel,by decide +kernel⟩
theorem ok__law_box{f:Addr}{fd:FuncData}(F:Fun K "_law_box" "_law_box" zk f fd)(T:TBox mg):FnOk P w K mg base CX0 1 f fd ["_law_script","_law_k"] (jom K):=by
 refine F.ok zw (λvs H Q E h=>?_) (λcdv A outer s H vs Q E hr h=>?_)
 ·obtain⟨a,k,ns,rfl,_⟩:=h
  rfl
 ·obtain⟨a,k,ns,rfl,hS,k0,k1,kk⟩:=h
  refine⟨_,(QSs.h (jg (jl (i:=2) zw.nd rfl (by first|exact Or.inl rfl|exact Or.inr rfl) (jq j8 (jq y8 jf (qpv 1)) jf))
  (jg (j0 (jn jab (qpv 1) (jv yw (by rfl) T.n_len kc (ja (qpv 0) jc)) (jr _)) (ji (jl (i:=2) zw.nd rfl (by first|exact Or.inl rfl|exact Or.inr rfl) (jk jbf (qpv 0) (qpv 1) (λ_ _=>rfl)))) (ji (j0 (jn ja5 (jv yw (by rfl) T.n_len kc (ja (qpv 0) jc)) jf (jr _)) (ji (jl (i:=2) zw.nd rfl (by first|exact Or.inl rfl|exact Or.inr rfl) (jq j8 (qpv 2) (jq y8 (jq zt (jk jbf (qpv 0) (jq zt (qpv 1) (jv yw (by rfl) T.n_len kc (ja (qpv 0) jc))) (λ_ _=>rfl)) jf) jf)))) ju)))
  (jg (jl (i:=3) zw.nd rfl (by first|exact Or.inl rfl|exact Or.inr rfl) (jq j8 (jq zt (jq j8 (jq y8 (jq zt (qpv 2) jf) jf) (jq y8 jf (qpv 1))) jf) jf))
  (ji (jp (j5 (ja (jq y8 (qpv 2) (ki call_intU (by rfl) T.n_int jcc (ja (y4 op_ge (qpv 2) (jq op_pow jf jf) (jr _)) jc))) (ja (qpv 3) jc))))))))),?_⟩
  have m1:∀z m:Int,0<m->0<=z%m/\z%m<m:=λz m h=>⟨Int.emod_nonneg z (by omega),Y5 z h⟩
  have tail:∀cell:Int,(0:Int)<2147483629/\CMul (cell%2147483629) 48271/\CMul 40692 k/\(0:Int)<2147483629/\CPow 10 18/\CMul cell (if(10:Int)^(18:Int).toNat<=cell then 1 else 0)/\2<=sizeLine /\
    ∀p,H p=none->Q (.ref p) (upd H p (.lst [.int (cell*(if(10:Int)^(18:Int).toNat<=cell then 1 else 0)),.int ((cell%2147483629*48271+40692*k)%2147483629+1)])):=by
   intro cell
   have q1:=m1 cell 2147483629 (by decide)
   have q2:=m1 (cell%2147483629*48271+40692*k) 2147483629 (by decide)
   refine⟨by decide,.inl ⟨by omega,by omega⟩,.inl ⟨by decide,by decide⟩,by decide,⟨by decide,by decide,by decide⟩,.inr ?_,by decide,λp hp=>kk p _ hp ⟨_,_,rfl,by omega,by omega⟩⟩
   split <;> constructor <;> decide
  simp!
  refine⟨.inl ⟨by decide,by decide⟩,ns.map V.int,.inl hS,?_⟩
  rw[Ad]
  refine ite2 (λh=>?_) (λh=>?_)
  ·obtain⟨z,hz⟩:∃z,ns[k.toNat]?=some z:=⟨ns[k.toNat]'(by omega),by simp⟩
   refine⟨a,_,k,.int z,rfl,rfl,hS,jcg k0 (by rw[Ax,hz];rfl),?_⟩
   simp!
   exact tail z
  ·refine⟨ns.map V.int,.inl hS,?_⟩
   rw[Ad]
   refine ite2 (λh2=>?_) (λh2=>?_)
   ·refine⟨ns.map V.int,.inl hS,?_⟩
    rw[Ad]
    have q:=m1 k (ns.length:Int) (by omega)
    obtain⟨z,hz⟩:∃z,ns[(k%(ns.length:Int)).toNat]?=some z:=⟨ns[(k%(ns.length:Int)).toNat]'(by omega),by simp⟩
    refine⟨by omega,a,_,_,.int z,rfl,rfl,hS,jcg q.1 (by rw[Ax,hz];rfl),?_⟩
    simp!
    have q3:=m1 z 2147483629 (by decide)
    refine⟨by decide,.inl ⟨by omega,by omega⟩,?_⟩
    exact tail _
   ·exact tail _
end
structure Letters(z:Str)(m:Nat):Prop where
 lo:1<=z.length
 hi:z.length<=m
 az:∀c∈z.cps.toList,97<=c/\c<=122
 nd:z.cps.toList.Nodup
def chV(c:Nat):V:=.str ⟨#[c]⟩
def jhi:Sp:=λvs H Q _=>∃(b:Addr)(m:Nat)(o:HO),vs=[.ref b,.int (m:Int)]/\H b=some o/\BoxO o/\1<=m/\m<=4/\∀z o' H',Letters z m->BoxO o'->H' b=some o'->Kp [b] H H'->Q (.str z) H'
theorem jfo{α:Type}:∀(l:List α)(i:Nat)(x:α),l[i]?=some x->(x::l.eraseIdx i).Perm l
 |[],i,x,h=>by simp at h
 |a::l,0,x,h=>by simp at h;subst h;exact List.Perm.refl _
 |a::l,i+1,x,h=>by
  rw[List.eraseIdx_cons_succ]
  exact(List.Perm.swap _ _ _).trans ((jfo l i x (by simpa using h)).cons a)
theorem jej{α β:Type}(f:α->β):∀(l:List α)(i:Nat),(l.map f).eraseIdx i=(l.eraseIdx i).map f
 |[],_=>rfl
 |_::_,0=>rfl
 |a::l,i+1=>by rw[A9,List.eraseIdx_cons_succ,List.eraseIdx_cons_succ,A9,jej f l i]
theorem jop:sgn (Str.ofString "abcdefghijklmnopqrstuvwxyz")=((List.range 26).map (97+·)).map chV:=by decide +kernel
structure TLetters(mg:Str->Option Value)(ft:Addr):Prop where
 n_len:mg "len"=none
 n_list:mg "list"=none
 n_range:mg "range"=none
 m0z:mg "_law_take"=some (.ref ft)
section
variable{P:Program}{w:World}{K:PySem.W.Frag}{mg:Str->Option Value}{base:Heap}
abbrev yr:Stmt:=top 17
theorem zd:FnScope ["_law_box_here","_law_most","_law_pool","_law_found","_law_k"] ["_law_box_here","_law_most"] (jh yr):=⟨rfl,rfl,rfl,by decide +kernel,rfl,by decide +kernel,by decide +kernel⟩
theorem ok__law_letters{f ft:Addr}{fd fdt:FuncData}(F:Fun K "_law_letters" "_law_letters" yr f fd)(T:TLetters mg ft)(F0z:Fun K "_law_take" "_law_take" j7 ft fdt)(b0z:Binds K fdt ["_law_box_here","_law_wide"] [])
  (G0z:FnOk P w K mg base CX0 1 ft fdt ["_law_box_here","_law_wide"] jc7):FnOk P w K mg base CX0 2 f fd ["_law_box_here","_law_most"] jhi:=by
 refine F.ok zd (λvs H Q E h=>?_) (λcdv A outer s H vs Q E hr h=>?_)
 ·obtain⟨b,m,o,rfl,_⟩:=h
  rfl
 ·obtain⟨b,m,o,rfl,hb,ho,m1,m4,k⟩:=h
  refine⟨_,(QSs.h (jg (jl (i:=2) zd.nd rfl (by first|exact Or.inl rfl|exact Or.inr rfl) (ki (jah rfl) (by rfl) T.n_list ja4 (ja jm jc)))
  (jg (jl (i:=3) zd.nd rfl (by first|exact Or.inl rfl|exact Or.inr rfl) jm)
  (jg (yp Iv rfl (yu rfl T.n_range (ja (jq j8 jf (jj G0z (hr.mono (by decide)) rfl T.m0z F0z.kp b0z .nil jo (ja (qpv 0) (ja (qpv 1) jc)))) jc)) (jt (i:=4) zd.nd rfl (by first|exact Or.inl rfl|exact Or.inr rfl)) (ji (jl (i:=3) zd.nd rfl (by first|exact Or.inl rfl|exact Or.inr rfl) (jq j8 (qpv 3) (yh PySem.F.slot_list_pop PySem.F.type_list_pop jb2 (qpv 2) (ja (jj G0z (hr.mono (by decide)) rfl T.m0z F0z.kp b0z .nil jo (ja (qpv 0) (ja (jv j6 (by rfl) T.n_len kc (ja (qpv 2) jc)) jc))) jc) jcl)))))
  (ji (jp (qpv 3))))))),?_⟩
  simp!
  refine⟨by decide,λp hp=>?_⟩
  have npb:b≠p:=je hb hp
  obtain⟨c0,s0,rfl,_,_⟩:=id ho
  refine⟨b,(m:Int),_,rfl,by rw[jd npb];exact hb,ho,by omega,by omega,λd o1 d0 d1 ho1=>?_⟩
  simp!
  obtain⟨n,rfl⟩:∃n:Nat,d=(n:Int):=⟨d.toNat,by omega⟩
  have en:(1+(n:Int)).toNat=n+1:=by omega
  refine⟨by omega,by omega,?_⟩
  rw[en]
  refine jcv (λi σ H'=>∃l R o' v,σ=[some (.ref b),some (.int (m:Int)),some (.ref p),some (.str (toS l)),v]/\H' b=some o'/\BoxO o'/\H' p=some (.lst (R.map chV))/\Kp [b] H H'/\l.length=i/\R.length+i=26 /\
   (l++R).Nodup/\∀c∈l++R,97<=c/\c<=122) ?_ ?_ ?_
  ·refine⟨[],(List.range 26).map (97+·),o1,none,rfl,jb,ho1,?_,?_,rfl,by simp,?_,?_⟩
   ·rw[jd npb.symm,jb,jop]
   ·exact((Kp.refl [b] H).new hp).set (by rw[jd npb];exact hb) (.inl (by simp))
   ·decide
   ·decide
  ·rintro i σ H' hi ⟨l,R,o',v,rfl,hb',ho',hp',kp,hl,hR,nd,az⟩
   simp! [hp']
   obtain⟨c1,s1,rfl,_,_⟩:=id ho'
   refine⟨b,_,_,rfl,hb',ho',by rw[Ad];omega,by rw[Ad];omega,λd o2 d0 d1 ho2=>?_⟩
   rw[Ad]at d1
   have hp2:upd H' b o2 p=some (.lst (R.map chV)):=by rw[jd npb.symm];exact hp'
   simp! [hp2]
   obtain⟨c,hc⟩:∃c,R[d.toNat]?=some c:=⟨R[d.toNat]'(by omega),by simp⟩
   have hc':(R.map chV)[d.toNat]?=some (.str ⟨#[c]⟩):=by rw[Ax,hc];rfl
   refine⟨d0,_,hc',?_⟩
   simp!
   have pm:=jfo R d.toNat c hc
   have e1:((l++[c])++R.eraseIdx d.toNat).Perm (l++R):=by
    rw[U4]
    exact pm.append_left l
   have hlen:(R.eraseIdx d.toNat).length+1=R.length:=by
    have:=pm.length_eq
    simpa using this
   refine⟨?_,l++[c],R.eraseIdx d.toNat,o2,_,⟨jpg l c,rfl⟩,by rw[jd npb,jb],ho2,jej chV R _,?_,by simp[hl],by omega,?_,?_⟩
   ·rw[jgk]
    show l.length+1<=sizeLine
    have:sizeLine=16777216:=Aq
    omega
   ·exact(kp.set hb' (.inl (.head _))).set hp2 (.inr hp)
   ·exact e1.nodup_iff.mpr nd
   ·exact λx hx=>az x (e1.mem_iff.mp hx)
  ·rintro σ H' ⟨l,R,o',v,rfl,hb',ho',hp',kp,hl,hR,nd,az⟩
   simp! [hp']
   exact k (toS l) o' H' ⟨by rw[jgk];omega,by rw[jgk];omega,λc hc=>az c (Uc _ (by simpa[toS]using hc)),by simpa[toS]using(List.nodup_append.mp nd).1⟩ ho' hb' kp
end
theorem job{H:Hp}{a b:Addr}{x y:HO}(h:a≠b):upd (upd H a x) b y=upd (upd H b y) a x:=by
 funext c
 by_cases h1:c=a
 ·subst h1;rw[jd h,jb,jb]
 ·by_cases h2:c=b
  ·subst h2;rw[jb,jd h1,jb]
  ·rw[jd h2,jd h1,jd h1,jd h2]
theorem jif{lo:Int}{n:Nat}{D b:Addr}{te:TE}{E:Ends}{r:L2.St}{H:Hp}{o0:HO}(P:V->Prop)(hb:H b=some o0)(ho0:BoxO o0)(hD:H D=none)(hz:n<=sizeLine)
  (he:∀x H' o Q,H' b=some o->BoxO o->(∀v o',P v->BoxO o'->Q v (upd H' b o'))->te (some x::r) H' Q)
  (hn:∀v xs o',xs.length=n->(∀x∈xs,P x)->BoxO o'->E.nx (v::r) (upd (upd H b o') D (.lst xs))):jcn (Itr lo n) (jco 0) (jc3 D te) E (none::r) (upd H D (.lst [])):=by
 have nbD:b≠D:=je hb hD
 refine jcv (λi σ H'=>∃(v:Option V)(xs:List V)(o':HO),σ=v::r/\xs.length=i/\(∀x∈xs,P x)/\BoxO o'/\H'=upd (upd H b o') D (.lst xs)) ?_ ?_ ?_
 ·refine⟨none,[],o0,rfl,rfl,(λx h=>nomatch h),ho0,?_⟩
  have:upd H b o0=H:=by
   funext c
   by_cases h:c=b
   ·subst h;rw[jb,hb]
   ·rw[jd h]
  rw[this]
 ·rintro i σ H' hi ⟨v,xs,o',rfl,hl,hP,ho',rfl⟩
  refine he _ _ o' _ (by rw[jd nbD,jb]) ho' λy o2 hy ho2=>?_
  have e:upd (upd (upd H b o') D (.lst xs)) b o2=upd (upd H b o2) D (.lst xs):=by rw[job nbD.symm,jdb]
  refine⟨xs,by rw[e,jb];rfl,by omega,_,xs++[y],o2,rfl,by simp[hl],λx hx=>?_,ho2,by rw[e,jdb]⟩
  rcases Is.mp hx with h|h
  ·exact hP x h
  ·simp at h;subst h;exact hy
 ·rintro σ H' ⟨v,xs,o',rfl,hl,hP,ho',rfl⟩
  exact hn v xs o' hl hP ho'
theorem _root_.L2.Kp.seq{S:List Addr}{K:PySem.W.Frag}{H H':Hp}{a:Addr}{xs:List V}(e:Kp S H H')(n:a∉S)(h:SqL K H a xs):SqL K H' a xs:=by
 rcases h with(h|⟨o,h⟩)|h
 ·exact .inl (.inl (e.old _ _ h n))
 ·exact .inl (.inr ⟨o,e.old _ _ h n⟩)
 ·exact .inr h
def jhz(K:PySem.W.Frag):Sp:=λvs H Q _=>∃(a:Addr)(ns:List Int),vs=[.ref a]/\SqL K H a (ns.map V.int)/\ns.length<=63/\∀H',Q (.bl true) H'
theorem BoxO.lst{o:HO}(h:BoxO o):∃xs,o=.lst xs:=by obtain⟨c,s,e,_⟩:=h;exact⟨_,e⟩
theorem exQ{X:Cx}{ss:List Stmt}{t:TS}{D:Ends}{σ:L2.St}{H:Hp}(h:QSs X ss t)(q:t D σ H):∃t,PSs X ss t/\t D σ H:=⟨t,h.h,q⟩
inductive RS where
 |yes|is (x a:Str)|ahead (x y:Str)|no (i:Nat)|bin (b:Bool) (i j:Nat)|qn (b:Bool) (x:Str) (i:Nat)
def bw(b:Bool):Str:=if b then"and"else"or"
def qw(b:Bool):Str:=if b then"some"else"each"
def rowV:RS->List V
 |.yes=>[.str "yes"]
 |.is x a=>[.str "is",.str x,.str a]
 |.ahead x y=>[.str "ahead",.str x,.str y]
 |.no i=>[.str "not",.int (i:Int)]
 |.bin b i j=>[.str (bw b),.int (i:Int),.int (j:Int)]
 |.qn b x i=>[.str (qw b),.str x,.int (i:Int)]
def RS.ok(zs:List Str)(k:Nat):RS->Prop
 |.yes=>True
 |.is x _=>x∈zs
 |.ahead x y=>x∈zs/\y∈zs
 |.no i=>i<k
 |.bin _ i j=>i<k/\j<k
 |.qn _ x i=>x∈zs/\i<k
def okR(zs:List Str)(rs:List RS):Prop:=∀(k:Nat)(r:RS),rs[k]?=some r->r.ok zs k
theorem okR.snoc{zs:List Str}{rs:List RS}{r:RS}(h:okR zs rs)(hr:r.ok zs rs.length):okR zs (rs++[r]):=λk x e=>by
 by_cases hk:k<rs.length
 ·exact h k x (by rwa[Oj hk]at e)
 ·rw[O1 (by omega)]at e
  have:k-rs.length=0:=by
   cases hq:k-rs.length with
   |zero=>rfl
   |succ n=>rw[hq]at e;simp at e
  rw[this]at e
  simp at e
  subst e
  rw[show k=rs.length by omega]
  exact hr
theorem okR.take{zs:List Str}{rs:List RS}(h:okR zs rs)(m:Nat):okR zs (rs.take m):=λk x e=>h k x (by
 rw[Uy]at e
 split at e
 ·exact e
 ·cases e)
def RowsAt(H:Hp)(vs:List V)(rs:List RS):Prop:=Paired (λv r=>∃a,v=.ref a/\H a=some (.tup (rowV r))) vs rs
theorem RowsAt.kp{S:List Addr}{H H':Hp}{vs:List V}{rs:List RS}(k:Kp S H H')(h:RowsAt H vs rs):RowsAt H' vs rs:=Paired.mapP h λ_ _ ⟨a,e,h⟩=>⟨a,e,k.tup _ _ h⟩
theorem RowsAt.get:∀{H:Hp}{vs:List V}{rs:List RS}{k:Nat}{v:V},RowsAt H vs rs->vs[k]?=some v->∃r a,rs[k]?=some r/\v=.ref a/\H a=some (.tup (rowV r))
 |H,_,_,k,v,.nil,e=>by simp at e
 |H,_,_,0,v,.cons (b:=b) ⟨a,q1,q2⟩ _,e=>by simp at e;subst e;exact⟨b,a,rfl,q1,q2⟩
 |H,_,_,k+1,v,.cons _ t,e=>by simp at e;obtain⟨r,a,h⟩:=RowsAt.get (rs:=_) t e;exact⟨r,a,by simpa using h.1,h.2⟩
def fm(F:List (List Str)):RS->List Str
 |.yes=>[]
 |.is x _=>[x]
 |.ahead x y=>[x,y]
 |.no i=>F.getD i []
 |.bin _ i j=>F.getD i []++F.getD j []
 |.qn _ x i=>(F.getD i []).filter λy=>!decide (y=x)
structure Cn(l raw:List Str):Prop where
 so:PyProof.Rows.sortedS l=true
 nd:l.Nodup
 me:∀x,x∈l↔x∈raw
theorem Cn.one{l m raw raw':List Str}(h:Cn l raw)(h':Cn m raw')(e:∀x,x∈raw↔x∈raw'):l=m:=jln h.so h'.so h.nd h'.nd λx=>by rw[h.me,h'.me,e]
theorem jdi{α:Type}{d:α}{F:List α}{x:α}{i:Nat}(h:i<F.length):(F++[x]).getD i d=F.getD i d:=by
 rw[Ak,Ak,Oj h]
theorem jeg{α:Type}{d:α}{F:List α}{x:α}:(F++[x]).getD F.length d=x:=by
 rw[Ak,O1 (Af _)]
 simp
theorem jd1{F G:List (List Str)}{zs:List Str}{k:Nat}(h:∀i,i<k->F.getD i []=G.getD i []):∀{r:RS},r.ok zs k->fm F r=fm G r
 |.yes,_=>rfl
 |.is _ _,_=>rfl
 |.ahead _ _,_=>rfl
 |.no i,ok=>h i ok
 |.bin _ i j,ok=>by simp only[fm];rw[h i ok.1,h j ok.2]
 |.qn _ x i,ok=>by simp only[fm];rw[h i ok.2]
structure CF(zs:List Str)(F:List (List Str))(rs:List RS):Prop where
 len:F.length=rs.length
 at_:∀k r,rs[k]?=some r->Cn (F.getD k []) (fm F r)
 sub:∀k x,x∈F.getD k []->x∈zs
theorem jpo{zs:List Str}{F:List (List Str)}{k:Nat}(h:∀k x,x∈F.getD k []->x∈zs):∀{r:RS},r.ok zs k->∀x∈fm F r,x∈zs
 |.yes,_,x,hx=>by simp[fm]at hx
 |.is y _,ok,x,hx=>by
  have:x=y:=by simpa[fm]using hx
  rw[this];exact ok
 |.ahead y z,ok,x,hx=>by
  have:x=y\/x=z:=by simpa[fm]using hx
  rcases this with rfl|rfl
  ·exact ok.1
  ·exact ok.2
 |.no i,_,x,hx=>h i x hx
 |.bin _ i j,_,x,hx=>by
  rcases Is.mp hx with q|q
  ·exact h i x q
  ·exact h j x q
 |.qn _ y i,_,x,hx=>h i x (Uz.mp hx).1
theorem CF.nil(zs:List Str):CF zs [] []:=⟨rfl,λk r e=>by simp at e,λk x hx=>by simp at hx⟩
theorem CF.snoc{zs:List Str}{F:List (List Str)}{rs:List RS}{r:RS}{l:List Str}(h:CF zs F rs)(okr:okR zs rs)(hr:r.ok zs rs.length)(hl:Cn l (fm F r)):CF zs (F++[l]) (rs++[r]):=by
 have hF:=h.len
 refine⟨by simp[hF],λk x e=>?_,λk x hx=>?_⟩
 ·by_cases hk:k<rs.length
  ·rw[Oj hk]at e
   rw[jdi (by omega),jd1 (G:=F) (λi hi=>jdi (by omega)) (okr k x e)]
   exact h.at_ k x e
  ·have hk':k=rs.length:=by
    have:=(Ag.mp e).1
    simp at this
    omega
   subst hk'
   rw[O1 (Af _)]at e
   simp at e
   subst e
   rw[<-hF,jeg,jd1 (G:=F) (k:=rs.length) (λi hi=>jdi (by omega)) hr]
   exact hl
 ·by_cases hk:k<F.length
  ·rw[jdi hk]at hx;exact h.sub k x hx
  ·by_cases hk2:k=F.length
   ·rw[hk2,jeg]at hx
    exact jpo h.sub hr x ((hl.me x).mp hx)
   ·rw[Ak,Of (by simp;omega)]at hx
    simp at hx
theorem CF.eq{zs:List Str}{F G:List (List Str)}{rs:List RS}(ok:okR zs rs)(h:CF zs F rs)(h':CF zs G rs):F=G:=by
 have key:∀k,F.getD k []=G.getD k []:=by
  intro k
  induction k using Nat.strongRecOn with
  |ind k ih =>
   by_cases hk:k<rs.length
   ·have e:=Am hk
    exact(h.at_ k _ e).one (h'.at_ k _ e) λx=>by rw[jd1 (λi hi=>ih i hi) (ok k _ e)]
   ·have h1:=h.len
    have h2:=h'.len
    rw[Ak,Of (by omega),Ak,Of (by omega)]
 refine List.ext_getElem? λk=>?_
 have h1:=h.len
 have h2:=h'.len
 have:=key k
 by_cases hk:k<rs.length
 ·rw[Ak,Ak,Am (by omega),Am (by omega)]at this
  rw[Am (by omega),Am (by omega)]
  exact Ob some this
 ·rw[Of (by omega),Of (by omega)]
theorem CF.take{zs:List Str}{F:List (List Str)}{rs:List RS}(ok:okR zs rs)(h:CF zs F rs)(m:Nat)(hm:m<=rs.length):CF zs (F.take m) (rs.take m):=by
 have hF:=h.len
 have gt:∀i,i<m->(F.take m).getD i []=F.getD i []:=λi hi=>by
  rw[Ak,Ak,Uy,Ap hi]
 refine⟨by rw[A5,A5,hF],λk r e=>?_,λk x hx=>?_⟩
 ·rw[Uy]at e
  split at e
  ·rename_i hk
   rw[gt k hk,jd1 (G:=F) (λi hi=>gt i (by omega)) (ok k r e)]
   exact h.at_ k r e
  ·cases e
 ·by_cases hk:k<m
  ·rw[gt k hk]at hx;exact h.sub k x hx
  ·rw[Ak,Uy,At hk]at hx
   simp at hx
theorem jd8:∀{l zs:List Str},l.Nodup->(∀x∈l,x∈zs)->l.length<=zs.length
 |[],_,_,_=>Ou _
 |x::l,zs,nd,h=>by
  obtain⟨hx,nd'⟩:=Uh.mp nd
  have hm:=h x (.head _)
  have:=jd8 (l:=l) (zs:=zs.erase x) nd' λy hy=>(List.mem_erase_of_ne (λe:y=x=>hx (e▸hy))).mpr (h y (.tail _ hy))
  rw[List.length_erase_of_mem hm]at this
  have hp:0<zs.length:=List.length_pos_of_mem hm
  rw[List.length_cons]
  omega
theorem CF.le{zs:List Str}{F:List (List Str)}{rs:List RS}(h:CF zs F rs)(k:Nat):(F.getD k []).length<=zs.length:=by
 by_cases hk:k<rs.length
 ·exact jd8 (h.at_ k _ (Am hk)).nd (h.sub k)
 ·have:=h.len
  rw[Ak,Of (by omega)]
  exact Ou _
theorem jmb{zs:List Str}{F:List (List Str)}{rs:List RS}(h:CF zs F rs)(hz:zs.length<=26):∀r:RS,(fm F r).length<=52
 |.yes=>Ou _
 |.is _ _=>by simp[fm]
 |.ahead _ _=>by simp[fm]
 |.no i=>by have:=h.le i;simp only[fm];omega
 |.bin _ i j=>by have:=h.le i;have:=h.le j;simp only[fm,Aw];omega
 |.qn _ x i=>by have:=h.le i;have:=Yj (λy=>!decide (y=x)) (F.getD i []);simp only[fm];omega
def dp(D:List Nat):RS->Nat
 |.no i=>D.getD i 0
 |.bin _ i j=>max (D.getD i 0) (D.getD j 0)
 |.qn _ _ i=>D.getD i 0+1
 |_=>0
def deps(rs:List RS):List Nat:=rs.foldl (λD r=>D++[dp D r]) []
theorem jgt(rs:List RS)(r:RS):deps (rs++[r])=deps rs++[dp (deps rs) r]:=by simp[deps,W4]
theorem jn9{α:Type}{M:List α->Prop}(h0:M [])(h1:∀l x,M l->M (l++[x])):∀l,M l:=by
 intro l
 rw[<-List.reverse_reverse l]
 induction l.reverse with
 |nil=>exact h0
 |cons x l ih=>rw[List.reverse_cons];exact h1 _ _ ih
theorem je9:∀rs:List RS,(deps rs).length=rs.length:=jn9 rfl λl x ih=>by rw[jgt,Aw,Aw,ih];rfl
def pts:RS->List Nat
 |.no i=>[i]
 |.bin _ i j=>[i,j]
 |.qn _ _ i=>[i]
 |_=>[]
def isI:V->Bool
 |.int _=>true
 |_=>false
theorem pts_rows(r:RS):(rowV r).filter isI=(pts r).map λi:Nat=>V.int (i:Int):=by cases r <;> rfl
def jko:Sp:=λvs H Q _=>∃(a:Addr)(r:RS),vs=[.ref a]/\H a=some (.tup (rowV r))/\∀p,H p=none->Q (.ref p) (upd H p (.lst ((pts r).map λi:Nat=>V.int (i:Int))))
structure TPa(K:PySem.W.Frag)(mg:Str->Option Value):Prop where
 n_isinstance:mg "isinstance"=none
 n_int:mg "int"=none
 si:PySem.W.kitOne K (.type "str") (.type "int")=some false
 ii:PySem.W.kitOne K (.type "int") (.type "int")=some true
def NT(H:Hp)(ys:List V)(F:List (List Str)):Prop:=Paired (λy l=>∃q,y=.ref q/\FzT H q (l.map V.str)) ys F
theorem NT.kp{S:List Addr}{H H':Hp}{ys:List V}{F:List (List Str)}(k:Kp S H H')(hS:∀b∈S,∃o,H b=some o/\∀ob u,o≠.frz ob u)(h:NT H ys F):NT H' ys F:=Paired.mapP h λ_ _ ⟨q,e,g⟩=>⟨q,e,g.stay k hS⟩
theorem NT.kp0{H H':Hp}{ys:List V}{F:List (List Str)}(h:NT H ys F)(k:Kp [] H H'):NT H' ys F:=h.kp k (by simp)
theorem NT.get:∀{H:Hp}{ys:List V}{F:List (List Str)}{i:Nat},NT H ys F->i<F.length->∃q,ys[i]?=some (.ref q)/\FzT H q ((F.getD i []).map V.str)
 |_,_,_,0,.cons ⟨q,e,g⟩ _,_=>⟨q,by rw[e];rfl,g⟩
 |_,_,_,i+1,.cons _ p,h=>by
  obtain⟨q,e,g⟩:=NT.get p (i:=i) (by simpa using h)
  exact⟨q,e,g⟩
def BN:List V:=[.str "some",.str "each"]
structure TNR(K:PySem.W.Frag)(mg:Str->Option Value)(fp ab:Addr):Prop where
 n_tuple:mg "tuple"=none
 n_sorted:mg "sorted"=none
 n_set:mg "set"=none
 m27z:mg "parts_of"=some (.ref fp)
 m_BINDING:mg "BINDING"=some (.ref ab)
 bn:∀H,SqT K H ab BN
def spNR:Sp:=λvs H Q _=>∃(a n:Addr)(r:RS)(ys:List V)(F:List (List Str))(rs:List RS)(zs:List Str),vs=[.ref a,.ref n]/\H a=some (.tup (rowV r))/\H n=some (.lst ys)/\NT H ys F/\CF zs F rs/\r.ok zs rs.length/\zs.length<=26 /\
 ∀q l H',Kp [] H H'->FzT H' q (l.map V.str)->Cn l (fm F r)->Q (.ref q) H'
theorem jkn(x:Str):Cn [x] [x]:=⟨rfl,by simp,λ_=>Iff.rfl⟩
def tg:RS->Fin 8
 |.yes=>0
 |.is _ _=>1
 |.ahead _ _=>2
 |.no _=>3
 |.bin true _ _=>4
 |.bin false _ _=>5
 |.qn true _ _=>6
 |.qn false _ _=>7
def hdw:Fin 8->Str
 |0=>"yes"
 |1=>"is"
 |2=>"ahead"
 |3=>"not"
 |4=>"and"
 |5=>"or"
 |6=>"some"
 |7=>"each"
def hd(r:RS):Str:=hdw (tg r)
theorem jcq(r:RS):atI (rowV r) 0=some (.str (hd r)):=by
 cases r with
 |bin b=>cases b <;> exact jcg (by decide) rfl
 |qn b=>cases b <;> exact jcg (by decide) rfl
 |_=>exact jcg (by decide) rfl
theorem w_is:∀t:Fin 8,hdw t=Str.ofString "is"->t=1:=by decide +kernel
theorem w_ah:∀t:Fin 8,hdw t=Str.ofString "ahead"->t=2:=by decide +kernel
theorem w_in:∀t:Fin 8,inV (.str (hdw t)) BN=true->t=6\/t=7:=by decide +kernel
theorem jhr{r:RS}(h:hd r=Str.ofString "is"):∃x c,r=.is x c:=by
 have q:=w_is _ h
 cases r with
 |is x c=>exact⟨x,c,rfl⟩
 |bin b=>cases b <;> cases q
 |qn b=>cases b <;> cases q
 |_=>cases q
theorem jdr{r:RS}(h:hd r=Str.ofString "ahead"):∃x y,r=.ahead x y:=by
 have q:=w_ah _ h
 cases r with
 |ahead x y=>exact⟨x,y,rfl⟩
 |bin b=>cases b <;> cases q
 |qn b=>cases b <;> cases q
 |_=>cases q
theorem jog{r:RS}(h:inV (.str (hd r)) BN=true):∃b x i,r=.qn b x i:=by
 have q:=w_in _ h
 cases r with
 |qn b x i=>exact⟨b,x,i,rfl⟩
 |bin b=>cases b <;> (rcases q with q|q <;> cases q)
 |_=>rcases q with q|q <;> cases q
theorem joj(b:Bool)(x:Str)(i:Nat):inV (.str (hd (.qn b x i))) BN=true:=by
 cases b
 ·exact(by decide +kernel:inV (.str (hdw 7)) BN=true)
 ·exact(by decide +kernel:inV (.str (hdw 6)) BN=true)
def rb(F:List (List Str))(l:List Nat):List Str:=(l.map λi=>F.getD i []).flatten
theorem jkj(F:List (List Str))(l:List Nat)(i:Nat):rb F (l++[i])=rb F l++F.getD i []:=by simp[rb]
theorem jqm{F:List (List Str)}{r:RS}(h1:hd r≠Str.ofString "is")(h2:hd r≠Str.ofString "ahead")(h3:inV (.str (hd r)) BN≠true):fm F r=rb F (pts r):=by
 cases r with
 |yes=>rfl
 |is=>exact absurd rfl h1
 |ahead=>exact absurd rfl h2
 |no=>simp[fm,rb,pts]
 |bin=>simp[fm,rb,pts]
 |qn b x i=>exact absurd (joj b x i) h3
theorem jbb{zs:List Str}{k:Nat}:∀{r:RS},r.ok zs k->∀i∈pts r,i<k
 |.no i,ok,j,hj=>by rw[Ah.mp hj];exact ok
 |.bin _ i j,ok,l,hl=>by
  rcases Ar.mp hl with rfl|hl
  ·exact ok.1
  ·rw[Ah.mp hl];exact ok.2
 |.qn _ _ i,ok,j,hj=>by rw[Ah.mp hj];exact ok.2
 |.yes,_,j,hj=>nomatch hj
 |.is _ _,_,j,hj=>nomatch hj
 |.ahead _ _,_,j,hj=>nomatch hj
theorem ji9{zs:List Str}{F:List (List Str)}{rs:List RS}(cf:CF zs F rs)(hz:zs.length<=26):∀l:List Nat,l.length<=2->(rb F l).length<=52
 |[],_=>Ou _
 |[i],_=>by have:=cf.le i;simp[rb];simp at this;omega
 |[i,j],_=>by have:=cf.le i;have:=cf.le j;simp[rb];simp at *;omega
 |_::_::_::_,h=>by simp at h
theorem jb6(r:RS):(pts r).length<=2:=by cases r <;> simp[pts]
section
variable{P:Program}{w:World}{K:PySem.W.Frag}{mg:Str->Option Value}{base:Heap}
abbrev zc:Stmt:=top 1
theorem sc_parts_of:FnScope ["row"] ["row"] (jh zc):=⟨rfl,rfl,rfl,by decide +kernel,rfl,by decide +kernel,by decide +kernel⟩
theorem ok_parts_of{f:Addr}{fd:FuncData}(F:Fun K "parts_of" "parts_of" zc f fd)(T:TPa K mg):FnOk P w K mg base CX0 1 f fd ["row"] jko:=by
 refine F.ok sc_parts_of (λvs H Q E h=>?_) (λcdv A outer s H vs Q E hr h=>?_)
 ·obtain⟨a,r,rfl,_⟩:=h
  rfl
 ·obtain⟨a,r,rfl,ha,k⟩:=h
  have hu:=hr.units
  have hsz:sizeLine=16777216:=Aq
  refine⟨_,(QSs.h (ji (jp (qpe_compIf rfl (jch (sc:=jh zc) (N:=["row"]) (Nc:=["thing"]) (js:=[none]) (by decide +kernel)) (kf (K:=K) (qpv 0) rfl) (λ_ _ _ _=>(jt (i:=0) (show List.Nodup [("thing":Str)]from by decide +kernel) rfl (by first|exact Or.inl rfl|exact Or.inr rfl))) (λ_ _ _ _=>(jbj (jv (jaj (K:=K) rfl) (by rfl) T.n_isinstance jax (ja (qpv 0) (ja (jbt (v:=.ty "int") rfl T.n_int jcc rfl) jc))))) (λ_ _ _ _=>(qpv 0)))))),?_⟩
  simp! [ha]
  intro D hD
  have hl:(rowV r).length<=3:=by cases r <;> simp[rowV]
  refine jkz isI id ha hD (by omega) (λx hx l Q' q=>?_) (λx hx _ l Q' q=>?_) λv=>?_
  ·simp!
   have hx':(∃z,x=.str z)\/∃i,x=.int i:=by
    cases r <;> simp[rowV]at hx <;> rcases hx with rfl|rfl|rfl <;> first|exact .inl ⟨_,rfl⟩|exact .inr ⟨_,rfl⟩
   rcases hx' with⟨z,rfl⟩|⟨i,rfl⟩
   ·exact⟨_,.str _,_,T.si,q⟩
   ·exact⟨_,.int _,_,T.ii,q⟩
  ·simp!
   exact q
  ·rw[List.map_id,pts_rows]
   exact k D hD
abbrev yj:Stmt:=top 5
theorem ze:FnScope ["row","names","word","free","part"] ["row","names"] (jh yj):=⟨rfl,rfl,rfl,by decide +kernel,rfl,by decide +kernel,by decide +kernel⟩
theorem ok_names_of_row{f fp ab:Addr}{fd fdp:FuncData}(F:Fun K "names_of_row" "names_of_row" yj f fd)(T:TNR K mg fp ab)(F27z:Fun K "parts_of" "parts_of" zc fp fdp)(b27z:Binds K fdp ["row"] [])
  (G27z:FnOk P w K mg base CX0 1 fp fdp ["row"] jko):FnOk P w K mg base CX0 2 f fd ["row","names"] spNR:=by
 refine F.ok ze (λvs H Q E h=>?_) (λcdv A outer s H vs Q E hr h=>?_)
 ·obtain⟨a,n,r,ys,G,rs,zs,rfl,_⟩:=h
  rfl
 ·obtain⟨a,n,r,ys,G,rs,zs,rfl,ha,hn,nt,cf,ok,hz,k⟩:=h
  have hu:=hr.units
  have hsz:sizeLine=16777216:=Aq
  have fl:=jmb cf hz r
  have hlen:=cf.len
  refine⟨_,(QSs.h (jg (jl (i:=2) ze.nd rfl (by first|exact Or.inl rfl|exact Or.inr rfl) (jk ix_U (qpv 0) jf (λ_ _=>rfl)))
  (jz (j0 (jn (j3 hu) (qpv 2) jm (jr _)) (ji (jp (jbx (ja (jk ix_U (qpv 0) jf (λ_ _=>rfl)) jc)))) ju)
  (jz (j0 (jn (j3 hu) (qpv 2) jm (jr _)) (ji (jp (ki jar (by rfl) T.n_tuple z3 (ja (jad rfl rfl T.n_sorted rfl T.n_set (zu (ja8 (K:=K) rfl) (qpv 0) (zv jf) z7)) jc)))) ju)
  (jg (jl (i:=3) ze.nd rfl (by first|exact Or.inl rfl|exact Or.inr rfl) (j5 jc))
  (jg (yp Iv rfl (kf (K:=K) (jj G27z (hr.mono (by decide)) rfl T.m27z F27z.kp b27z .nil jo (ja (qpv 0) jc)) rfl) (jt (i:=4) ze.nd rfl (by first|exact Or.inl rfl|exact Or.inr rfl)) (ji (ky (yh PySem.F.slot_list_extend PySem.F.type_list_extend mt_extendF (qpv 3) (ja (jk ix_U (qpv 1) (qpv 4) (λ_ _=>rfl)) jc) jcl))))
  (jz (j0 (jn (ja1 (K:=K) rfl) (qpv 2) (qpe_glob (v:=.ref _) rfl T.m_BINDING rfl) (by with_unfolding_all rfl)) (ji (jbe (i:=3) ze.nd rfl (by first|exact Or.inl rfl|exact Or.inr rfl) rfl (jch (sc:=jh yj) (N:=["row","names","word","free","part"]) (Nc:=["name","row"]) (js:=[none,some 0]) (by decide +kernel)) (kf (K:=K) (qpv 3) rfl) (λ_ _ _ _=>(jt (i:=0) (show List.Nodup [("name":Str),("row":Str)]from by decide +kernel) rfl (by first|exact Or.inl rfl|exact Or.inr rfl))) (λ_ _ _ _=>(jn (jbr hu) (qpv 0) (jk ix_U (qpv 1) jf (λ_ _=>rfl)) (jr _))) (λ_ _ _ _=>(qpv 0)))) ju)
  (ji (jp (ki jar (by rfl) T.n_tuple z3 (ja (jad rfl rfl T.n_sorted rfl T.n_set (qpv 3)) jc))))))))))),?_⟩
  simp! [ha]
  refine⟨_,jcq r,?_⟩
  refine⟨λσ H'=>[some (.ref a),some (.ref n),some (.str (hd r)),none,none]=σ/\H=H'/\hd r≠Str.ofString "is",?_,?_⟩
  ·simp! [ha]
   refine ite2 (λe=>?_) (λe=>e)
   obtain⟨x,c,rfl⟩:=jhr e
   exact⟨_,jcg (by decide) rfl,by omega,λq H' hq f k'=>k q [x] _ k' f (jkn x)⟩
  rintro _ _ ⟨rfl,rfl,h1⟩
  refine⟨λσ H'=>[some (.ref a),some (.ref n),some (.str (hd r)),none,none]=σ/\H=H'/\hd r≠Str.ofString "ahead",?_,?_⟩
  ·simp! [ha]
   refine ite2 (λe=>?_) (λe=>e)
   obtain⟨x,y,rfl⟩:=jdr e
   refine rSlU.tup ha (λh=>absurd h.1 (show ¬HT.sIx 3 0 (some 1)=0 by decide)) λq hq=>?_
   rw[show cutV (rowV (.ahead x y)) (some 1) none=[x,y].map V.str from rfl]
   refine⟨[x,y],by rw[jb];rfl,by simp,λp ss hp so nd me=>?_⟩
   exact⟨p,ss.map V.str,rfl,jb,λl H' hl f k'=>k l ss _ ((((Kp.refl [] H).new hq).new hp).trans k') f ⟨so,nd,me⟩⟩
  rintro _ _ ⟨rfl,rfl,h2⟩
  simp! [ha]
  refine⟨by omega,λfr hfr=>⟨a,r,rfl,by rw[jd (je ha hfr)];exact ha,λpl hpl=>?_⟩⟩
  have k1:Kp [] H (upd (upd H fr (.lst [])) pl (.lst ((pts r).map λi:Nat=>V.int (i:Int)))):=((Kp.refl [] H).new hfr).new hpl
  have nfp:fr≠pl:=je jb hpl
  have ef:upd (upd H fr (.lst [])) pl (.lst ((pts r).map λi:Nat=>V.int (i:Int))) fr=some (.lst []):=by rw[jd nfp,jb]
  have el:upd (upd H fr (.lst [])) pl (.lst ((pts r).map λi:Nat=>V.int (i:Int))) pl=some (.lst ((pts r).map λi:Nat=>V.int (i:Int))):=jb
  generalize upd (upd H fr (.lst [])) pl (.lst ((pts r).map λi:Nat=>V.int (i:Int)))=H1 at k1 ef el
  simp only[el]
  have pl2:=jb6 r
  refine jcs (xs:=(pts r).map λi:Nat=>V.int (i:Int)) (λi σ H'=>∃v:Option V,σ=[some (.ref a),some (.ref n),some (.str (hd r)),some (.ref fr),v]/\Kp [] H H'/\H' pl=some (.lst ((pts r).map λi:Nat=>V.int (i:Int)))/\H' fr=some (.lst ((rb G ((pts r).take i)).map V.str))) ?_ ?_ ?_ ?_
  ·exact⟨none,rfl,k1,el,ef⟩
  ·rintro i σ H' _ ⟨v,rfl,_,e,_⟩
   exact e
  ·rintro i x σ H2 hx ⟨v,rfl,k2,el2,ef2⟩
   rw[Ax]at hx
   obtain⟨j,hj,rfl⟩:∃j:Nat,(pts r)[i]?=some j/\x=.int (j:Int):=by
    cases e:(pts r)[i]? with
    |none=>rw[e]at hx;cases hx
    |some j=>rw[e]at hx;exact⟨j,rfl,(Av hx).symm⟩
   have hjk:j<G.length:=by rw[hlen];exact jbb ok j (A6 hj)
   obtain⟨q,hq1,hq2⟩:=nt.get hjk
   have hn2:=k2.old _ _ hn Ae
   have hil:i<(pts r).length:=(Ag.mp hj).1
   simp! [hn2,ef2]
   refine⟨_,jcm hq1,?_⟩
   have hq3:=hq2.kp0 k2
   have rl:=ji9 cf hz ((pts r).take i) (by rw[A5];omega)
   have gl:=cf.le j
   refine⟨fr,q,_,_,rfl,rfl,ef2,hq3,by rw[Ad,Ad];omega,k2.set ef2 (.inr hfr),by rw[jd nfp.symm];exact el2,?_⟩
   rw[jb,O2,hj,<-I0]
   show some (HO.lst ((rb G ((pts r).take i)++G.getD j []).map V.str))=some (.lst ((rb G ((pts r).take i++[j])).map V.str))
   rw[jkj]
  ·rintro σ H2 ⟨v,rfl,k2,el2,ef2⟩
   rw[Ad,Oh]at ef2
   refine⟨λσ H'=>∃(q:Addr)(v:Option V),σ=[some (.ref a),some (.ref n),some (.str (hd r)),some (.ref q),v]/\Kp [] H H'/\H' q=some (.lst ((fm G r).map V.str)),?_,?_⟩
   ·simp!
    refine rInU.tupS (T.bn H2) rfl rfl ⟨_,rfl,?_⟩
    rw[show(if false=true then !inV (.str (hd r)) BN else inV (.str (hd r)) BN)=inV (.str (hd r)) BN from rfl]
    refine ite2 (λe=>?_) (λe=>⟨fr,v,⟨rfl,rfl⟩,k2,by rw[jqm h1 h2 e];exact ef2⟩)
    obtain⟨bb,x,i,rfl⟩:=jog e
    simp only[ef2]
    intro D hD
    have ha2:=k2.tup _ _ ha
    have ad:a≠D:=je ha2 hD
    have rl:=ji9 cf hz [i] (by simp)
    refine jdy (λv=>match v with|.str y=>!decide (y=x)|_=>false) id ef2 hD (by rw[Ad];show(rb G [i]).length<=_;omega) (λu hu l Q' q=>?_) (λu hu _ l Q' q=>?_) λv'=>?_
    ·obtain⟨y,hy,rfl⟩:=Ay.mp hu
     have ha3:upd H2 D (.lst l) a=some (.tup (rowV (.qn bb x i))):=by rw[jd ad];exact ha2
     simp! [ha3]
     exact⟨_,jcg (by decide) rfl,_,rfl,q⟩
    ·simp!
     exact q
    ·refine⟨D,v,⟨rfl,rfl⟩,k2.new hD,?_⟩
     rw[jb,List.map_id,List.filter_map]
     show some (HO.lst (((rb G [i]).filter λy=>!decide (y=x)).map V.str))=_
     simp[rb,fm]
   rintro _ H3 ⟨q,v,rfl,k3,e3⟩
   simp! [e3]
   refine⟨fm G r,rfl,by omega,λp ss hp so nd me=>?_⟩
   exact⟨p,ss.map V.str,rfl,jb,λl H' hl f k'=>k l ss _ ((k3.new hp).trans k') f ⟨so,nd,me⟩⟩
end
def jon:Sp:=λvs H Q _=>∃(a:Addr)(us:List V)(rs:List RS)(zs:List Str),vs=[.ref a]/\H a=some (.tup us)/\RowsAt H us rs/\okR zs rs/\zs.length<=26/\rs.length<=100 /\
 ∀p ys F H',Kp [] H H'->H' p=some (.lst ys)->NT H' ys F->CF zs F rs->Q (.ref p) H'
structure TNRS(mg:Str->Option Value)(fr:Addr):Prop where
 m23z:mg "names_of_row"=some (.ref fr)
theorem jcp{α:Type}{l:List α}{i:Nat}{x:α}(h:l[i]?=some x):l.take (i+1)=l.take i++[x]:=by rw[O2,h];rfl
theorem NT.len{H:Hp}{ys:List V}{F:List (List Str)}(h:NT H ys F):ys.length=F.length:=Au h
section
variable{P:Program}{w:World}{K:PySem.W.Frag}{mg:Str->Option Value}{base:Heap}
abbrev ym:Stmt:=top 4
theorem zx:FnScope ["saying","names","row"] ["saying"] (jh ym):=⟨rfl,rfl,rfl,by decide +kernel,rfl,by decide +kernel,by decide +kernel⟩
theorem ok_names_of_rows{f fr:Addr}{fd fdr:FuncData}(F:Fun K "names_of_rows" "names_of_rows" ym f fd)(T:TNRS mg fr)(F23z:Fun K "names_of_row" "names_of_row" yj fr fdr)(b23z:Binds K fdr ["row","names"] [])
  (G23z:FnOk P w K mg base CX0 2 fr fdr ["row","names"] spNR):FnOk P w K mg base CX0 3 f fd ["saying"] jon:=by
 refine F.ok zx (λvs H Q E h=>?_) (λcdv A outer s H vs Q E hr h=>?_)
 ·obtain⟨a,us,rs,zs,rfl,_⟩:=h
  rfl
 ·obtain⟨a,us,rs,zs,rfl,ha,ra,ok,hz,hl,k⟩:=h
  have hu:=hr.units
  have hsz:sizeLine=16777216:=Aq
  have hul:us.length=rs.length:=Au ra
  refine⟨_,(QSs.h (jg (jl (i:=1) zx.nd rfl (by first|exact Or.inl rfl|exact Or.inr rfl) (j5 jc))
  (jg (yp Iv rfl (kf (K:=K) (qpv 0) rfl) (jt (i:=2) zx.nd rfl (by first|exact Or.inl rfl|exact Or.inr rfl)) (ji (ky (yh A7 A8 ku (qpv 1) (ja (jj G23z (hr.mono (by decide)) rfl T.m23z F23z.kp b23z .nil jo (ja (qpv 2) (ja (qpv 1) jc))) jc) jcl))))
  (ji (jp (qpv 1)))))),?_⟩
  simp!
  refine⟨by omega,λnm hnm=>?_⟩
  have a0:upd H nm (.lst []) a=some (.tup us):=by rw[jd (je ha hnm)];exact ha
  simp only[a0]
  refine jds (xs:=us) (λi σ H'=>∃(v:Option V)(ys:List V)(G:List (List Str)),σ=[some (.ref a),some (.ref nm),v]/\Kp [] H H'/\H' nm=some (.lst ys)/\NT H' ys G/\CF zs G (rs.take i)) ?_ ?_ ?_ ?_
  ·exact⟨none,[],[],rfl,(Kp.refl [] H).new hnm,jb,.nil,CF.nil zs⟩
  ·rintro i σ H' _ ⟨v,ys,G,rfl,kp,_⟩
   exact kp.tup _ _ ha
  ·rintro i x σ H1 hx ⟨v,ys,G,rfl,k1,e1,nt,cf⟩
   obtain⟨r,c,hri,rfl,hc⟩:=ra.get hx
   have hi:i<rs.length:=(Ag.mp hri).1
   have hl1:(rs.take i).length=i:=by rw[A5];omega
   have okr:=ok i r hri
   have hyl:=nt.len
   have hG:=cf.len
   simp!
   refine⟨by rw[e1];rfl,c,nm,r,ys,G,rs.take i,zs,rfl,k1.tup _ _ hc,e1,nt,cf,by rw[hl1];exact okr,hz,λq l H2 k2 e2 cn=>?_⟩
   have e12:=k2.old _ _ e1 Ae
   have kL:Kp [nm] H2 (upd H2 nm (.lst (ys++[.ref q]))):=(Kp.refl [nm] H2).set e12 (.inl (.head _))
   refine⟨ys,by rw[e12];rfl,by omega,(k1.trans k2).set e12 (.inr hnm),G++[l],?_,?_⟩
   ·have hS:∀b∈[nm],∃o,H2 b=some o/\∀ob u,o≠.frz ob u:=λb hb=>by rw[Ah.mp hb];exact⟨_,e12,λ_ _ z=>by cases z⟩
    exact O9 ((nt.kp0 k2).kp kL hS) ⟨q,rfl,e2.stay kL hS⟩
   ·rw[jcp hri]
    exact cf.snoc (ok.take i) (by rw[hl1];exact okr) cn
  ·rintro σ H1 ⟨v,ys,G,rfl,k1,e1,nt,cf⟩
   rw[hul,Oh]at cf
   simp!
   exact k nm ys G H1 k1 e1 nt cf
end
def iV(c:List Nat):List V:=c.map λp:Nat=>V.int (p:Int)
def CL(H:Hp)(us:List V)(cs:List (List Nat)):Prop:=Paired (λv c=>∃a,v=.ref a/\H a=some (.tup (iV c))) us cs
theorem CL.kp{S:List Addr}{H H':Hp}{us:List V}{cs:List (List Nat)}(k:Kp S H H')(h:CL H us cs):CL H' us cs:=Paired.mapP h λ_ _ ⟨a,e,h⟩=>⟨a,e,k.tup _ _ h⟩
theorem jat{α β:Type}{F:α->β->Prop}:∀{l:List α}{m:List β}{k:Nat}{v:α},Paired F l m->l[k]?=some v->∃r,m[k]?=some r/\F v r
 |_,_,k,v,.nil,e=>by simp at e
 |_,_,0,v,.cons (b:=b) h _,e=>by simp at e;subst e;exact⟨b,rfl,h⟩
 |_,_,k+1,v,.cons _ t,e=>by simp at e;obtain⟨r,h⟩:=jat t e;exact⟨r,by simpa using h.1,h.2⟩
def joo:Sp:=λvs H Q _=>∃(a:Addr)(m:Nat)(us:List V)(cs:List (List Nat)),vs=[.ref a,.int (m:Int)]/\H a=some (.lst us)/\CL H us cs/\cs.length*m<=1000000/\m<=1000000/\(∀c∈cs,c.length<=100) /\
 ∀p us' H',H p=none->H' p=some (.lst us')->CL H' us' (cs.flatMap λc=>(List.range m).map λp=>c++[p])->Kp [] H H'->Q (.ref p) H'
structure TOne(mg:Str->Option Value):Prop where
 n_range:mg "range"=none
section
variable{P:Program}{w:World}{K:PySem.W.Frag}{mg:Str->Option Value}{base:Heap}
abbrev yf:Stmt:=top 13
theorem zg:FnScope ["chosen","many","longer","choice","place"] ["chosen","many"] (jh yf):=⟨rfl,rfl,rfl,by decide +kernel,rfl,by decide +kernel,by decide +kernel⟩
theorem ok_one_place_more{f:Addr}{fd:FuncData}(F:Fun K "one_place_more" "one_place_more" yf f fd)(T:TOne mg):FnOk P w K mg base CX0 1 f fd ["chosen","many"] joo:=by
 refine F.ok zg (λvs H Q E h=>?_) (λcdv A outer s H vs Q E hr h=>?_)
 ·obtain⟨a,m,us,cs,rfl,_⟩:=h
  rfl
 ·obtain⟨a,m,us,cs,rfl,ha,cl,hm,hm2,hc,k⟩:=h
  have hu:=hr.units
  have hsz:sizeLine=16777216:=Aq
  have ul:us.length=cs.length:=Au cl
  refine exQ (jg (jl (i:=2) zg.nd rfl (by first|exact Or.inl rfl|exact Or.inr rfl) (j5 jc))
  (jg (yp Iv rfl (kf (K:=K) (qpv 0) rfl) (jt (i:=3) zg.nd rfl (by first|exact Or.inl rfl|exact Or.inr rfl)) (ji (yp Iv rfl (yu rfl T.n_range (ja (qpv 1) jc)) (jt (i:=4) zg.nd rfl (by first|exact Or.inl rfl|exact Or.inr rfl)) (ji (ky (yh A7 A8 ku (qpv 2) (ja (jq op_addX (qpv 3) (j9 (ja (qpv 4) jc))) jc) jcl))))))
  (ji (jp (qpv 2))))) ?_
  simp!
  refine⟨by omega,λq hq=>?_⟩
  have haq:∀o,upd H q o a=some (.lst us):=λo=>by rw[jd (je ha hq)];exact ha
  simp only[haq]
  refine jcs (xs:=us) (λi σ H'=>∃(v1 v2:Option V)(vs:List V),σ=[some (.ref a),some (.int (m:Int)),some (.ref q),v1,v2]/\H' q=some (.lst vs)/\CL H' vs ((cs.take i).flatMap λc=>(List.range m).map λp=>c++[p])/\Kp [] H H') ?_ ?_ ?_ ?_
  ·exact⟨none,none,[],rfl,jb,.nil,(Kp.refl [] H).new hq⟩
  ·rintro i σ H' _ ⟨v1,v2,vs,rfl,_,_,kp⟩
   exact kp.old _ _ ha Ae
  ·rintro i x σ H1 hx ⟨v1,v2,vs,rfl,hq1,cl1,kp⟩
   obtain⟨c,hci,t,rfl,ht⟩:=jat cl hx
   have hil:i<cs.length:=(Ag.mp hci).1
   have hcl:=hc c (A6 hci)
   have lb:((cs.take i).flatMap λc=>(List.range m).map λp=>c++[p]).length=i*m:=by
    rw[jfa _ m _ λx _=>by simp,A5,Yx (by omega)]
   have vl:vs.length=i*m:=(Au cl1).trans lb
   have b1:i*m+m<=cs.length*m:=by
    have:(i+1)*m<=cs.length*m:=Yy m hil
    rwa[Wv]at this
   have ht1:=kp.tup _ _ ht
   simp!
   refine⟨by omega,by omega,?_⟩
   rw[Int.toNat_natCast]
   refine jcv (λj σ H'=>∃(v2:Option V)(vs':List V),σ=[some (.ref a),some (.int (m:Int)),some (.ref q),some (.ref t),v2]/\H' q=some (.lst vs')/\CL H' vs' (((cs.take i).flatMap λc=>(List.range m).map λp=>c++[p])++(List.range j).map λp=>c++[p])/\Kp [] H H') ?_ ?_ ?_
   ·exact⟨v2,vs,rfl,hq1,by simpa using cl1,kp⟩
   ·rintro j σ H2 hj ⟨v2,vs',rfl,hq2,cl2,kp2⟩
    have vl2:vs'.length=i*m+j:=by rw[Au cl2,Aw,lb];simp
    simp! [hq2]
    refine⟨by omega,λt1 ht1'=>⟨t,t1,iV c,[.int (0+(j:Int))],rfl,rfl,by rw[jd (je (kp2.tup _ _ ht) ht1')];exact kp2.tup _ _ ht,jb,by simp[iV];omega,λp H3 k3 hp=>?_⟩⟩
    have k23:Kp [] H2 H3:=((Kp.refl [] H2).new ht1').trans k3
    have hq3:=k23.old _ _ hq2 Ae
    refine⟨_,by rw[hq3];rfl,by omega,?_,(kp2.trans k23).set hq3 (.inr hq)⟩
    have k4:Kp [q] H3 (upd H3 q (.lst (vs'++[.ref p]))):=(Kp.refl [q] H3).set hq3 (.inl (.head _))
    rw[Yt,I0,<-U4]
    refine O9 ((cl2.kp k23).kp k4) ⟨p,rfl,k4.tup _ _ ?_⟩
    rw[hp];simp[iV]
   ·rintro σ H2 ⟨v2,vs',rfl,hq2,cl2,kp2⟩
    refine⟨_,_,rfl,vs',hq2,?_,kp2⟩
    rw[jcp hci,List.flatMap_append]
    simpa using cl2
  ·rintro σ H1 ⟨v1,v2,vs,rfl,hq1,cl1,kp⟩
   rw[ul,Oh]at cl1
   simp!
   exact k q vs H1 hq hq1 cl1 kp
end
def jhu(st:Stmt)(i:Nat):Stmt:=match st with
 |.ClassDef _ _ _ b _ _ _ _ _ _ _=>b.getD i (.Pass ⟨0,0,0,0⟩)
 |s=>s
def kS(F:List Str):List L2.Key:=F.map Sum.inr
theorem jfs(F:List Str):(kS F).map kV=F.map V.str:=by simp[kS,kV]
theorem jmi{F G:List Str}(h:kS F=kS G):F=G:=by
 unfold kS at h
 exact List.map_inj_right (f:=(Sum.inr:Str->L2.Key)) (λa b e=>Sum.inr.inj e) |>.mp h
def CS(m:Nat)(pk:Addr):List (Str×V):=[("many",.int (m:Int)),("known",.ref pk)]
structure CK(K:PySem.W.Frag)(C:Addr):Prop where
 cls:Cls K C
 many:NoAttr K C "many"
 known:NoAttr K C "known"
structure CH(P:Program)(w:World)(H0 H:Hp)(x C dx pk:Addr)(m n:Nat):Prop where
 hx:H x=some (.ins C dx (CS m pk))
 dp:∃G,DP (PKd.tt P w) H pk G n/\∀F M v,G (kS F,kS M)=some v->∃p,v=.ref p/\H0 p=none/\H p=some (.lst (iV (nums m F M)))
 dom:∀a o,H0 a=some o->∃o',H a=some o'
theorem CH.keep{P:Program}{w:World}{H0 H H':Hp}{x C dx pk:Addr}{m n:Nat}{S:List Addr}(c:CH P w H0 H x C dx pk m n)(k:Kp S H H')(hS:∀b∈S,(∃o,H0 b=some o)/\(∃o,H b=some o/\∀ob u,o≠.frz ob u)/\b≠x/\b≠pk):CH P w H0 H' x C dx pk m n:=by
 obtain⟨G,dp,g⟩:=c.dp
 refine⟨k.old _ _ c.hx λz=>(hS _ z).2.2.1 rfl,⟨G,dp.keep k (λz=>(hS _ z).2.2.2 rfl) λb hb=>(hS b hb).2.1,λF M v e=>?_⟩,λa o e=>?_⟩
 ·obtain⟨p,h1,h2,h3⟩:=g F M v e
  refine⟨p,h1,h2,k.old _ _ h3 λz=>?_⟩
  obtain⟨o,ho⟩:=(hS p z).1
  rw[h2]at ho;cases ho
 ·obtain⟨o',e'⟩:=c.dom a o e
  exact k.dom a o' e'
theorem CH.keep0{P:Program}{w:World}{H0 H H':Hp}{x C dx pk:Addr}{m n:Nat}(c:CH P w H0 H x C dx pk m n)(k:Kp [] H H'):CH P w H0 H' x C dx pk m n:=c.keep k (by simp)
theorem CH.free{P:Program}{w:World}{H0 H:Hp}{x C dx pk:Addr}{m n:Nat}(c:CH P w H0 H x C dx pk m n){p:Addr}(h:H p=none):H0 p=none:=by
 cases e:H0 p with
 |none=>rfl
 |some o=>obtain⟨o',e'⟩:=c.dom p o e;rw[h]at e';cases e'
theorem fld0{K:PySem.W.Frag}{H:Hp}{x C dx:Addr}{σ:L2.St}{i:Nat}{Q:VK}{fs:List (Str×V)}{f:Str}{v:V}(e:σ[i]?=some (some (.ref x)))(hx:H x=some (.ins C dx fs))(c:Cls K C)(n:NoAttr K C f)(l:fs.lookup f=some v)(q:Q v H):tFld K (tVar i) f σ H Q:=⟨.ref x,e,x,C,dx,fs,v,rfl,hx,c,n,l,q⟩
theorem jmx{H:Hp}{x C dx:Addr}{fs fs':List (Str×V)}{S:List Addr}(e:H x=some (.ins C dx fs))(m:x∈S):Kp S H (upd H x (.ins C dx fs')):=by
 refine⟨λb v e' n=>?_,λb xs e'=>?_,λb v e'=>?_⟩
 ·rw[jd λz=>n (by rw[z];exact m)];exact e'
 ·rw[jd λz=>by rw[z,e]at e';cases e'];exact e'
 ·by_cases z:b=x
  ·rw[z,jb];exact⟨_,rfl⟩
  ·rw[jd z];exact⟨v,e'⟩
def jm2(P:Program)(w:World)(C:Addr):Sp:=λvs H Q _=>∃(x dx:Addr)(m:Nat),vs=[.ref x,.int (m:Int)]/\H x=some (.ins C dx []) /\
 ∀H' pk,H' x=some (.ins C dx (CS m pk))->DP (PKd.tt P w) H' pk (λ_=>none) 0->H pk=none->Kp [x] H H'->Q .non H'
section
variable{P:Program}{w:World}{K:PySem.W.Frag}{mg:Str->Option Value}{base:Heap}
abbrev zy:Stmt:=jhu (top 12) 0
theorem sc_Rd_init:FnScope ["self","many"] ["self","many"] (jh zy):=⟨rfl,rfl,rfl,by decide +kernel,rfl,by decide +kernel,by decide +kernel⟩
theorem ok_init{f C:Addr}{fd:FuncData}(F:Fun K "__init__" "Choices.__init__" zy f fd)(rc:CK K C):FnOk P w K mg base CX0 1 f fd ["self","many"] (jm2 P w C):=by
 refine F.ok sc_Rd_init (λvs H Q E h=>?_) (λcdv A outer s H vs Q E hr h=>?_)
 ·obtain⟨x,dx,m,rfl,_⟩:=h
  rfl
 ·obtain⟨x,dx,m,rfl,hx,k⟩:=h
  have hu:=hr.units
  have hsz:sizeLine=16777216:=Aq
  refine exQ (jg (jb9 (K:=K) rfl (qpv 0) (qpv 1))
  (ji (jb9 (K:=K) rfl (qpv 0) (jbw (κ:=PKd.tt P w) rfl rfl)))) ?_
  simp!
  refine⟨.int (m:Int),rfl,.ref x,rfl,x,C,dx,[],rfl,hx,rc.cls,rc.many,by simp,?_⟩
  have k1:=jmx (S:=[x]) (fs':=putF "many" (.int (m:Int)) []) hx (.head _)
  have x1:upd H x (.ins C dx (putF "many" (.int (m:Int)) [])) x=_:=jb
  generalize upd H x (.ins C dx (putF "many" (.int (m:Int)) []))=H1 at k1 x1⊢
  intro pk φ hpk dp
  have nx:x≠pk:=je x1 hpk
  have k2:Kp [x] H1 (upd H1 pk (.ext φ)):=(Kp.refl [x] H1).new hpk
  have x2:upd H1 pk (.ext φ) x=_:=(jd nx).trans x1
  generalize upd H1 pk (.ext φ)=H2 at k2 x2 dp⊢
  refine⟨.ref x,rfl,x,C,dx,_,rfl,x2,rc.cls,rc.known,Nat.lt_of_le_of_lt (Nat.le_of_eq (rfl:List.length _=1)) (by decide),?_⟩
  have k3:=jmx (S:=[x]) (fs':=CS m pk) x2 (.head _)
  refine k _ pk jb (dp.keep k3 (by simpa using nx.symm) λb hb=>?_) (k1.free hpk) ((k1.trans k2).trans k3)
  rw[Ah.mp hb]
  exact⟨_,x2,λ_ _ z=>by cases z⟩
def jlp(C:Addr):Sp:=λvs H Q _=>∃(x dx pk:Addr)(m n:Nat),vs=[.ref x,.int (n:Int)]/\H x=some (.ins C dx (CS m pk))/\(∀j,j<=n->m^j<=1000000)/\m<=1000000/\n<=99 /\
 ∀p us H',H p=none->H' p=some (.lst us)->CL H' us (allC m n)->Kp [] H H'->Q (.ref p) H'
structure TAll(K:PySem.W.Frag)(mg:Str->Option Value)(C fo:Addr):Prop where
 n_range:mg "range"=none
 rc:CK K C
 m26z:mg "one_place_more"=some (.ref fo)
abbrev zp:Stmt:=jhu (top 12) 1
theorem zz:FnScope ["self","names","chosen","name"] ["self","names"] (jh zp):=⟨rfl,rfl,rfl,by decide +kernel,rfl,by decide +kernel,by decide +kernel⟩
theorem ok_all_of{f C fo:Addr}{fd fdo:FuncData}(F:Fun K "all_of" "Choices.all_of" zp f fd)(T:TAll K mg C fo)(F26z:Fun K "one_place_more" "one_place_more" yf fo fdo)(b26z:Binds K fdo ["chosen","many"] [])
  (G26z:FnOk P w K mg base CX0 1 fo fdo ["chosen","many"] joo):FnOk P w K mg base CX0 2 f fd ["self","names"] (jlp C):=by
 refine F.ok zz (λvs H Q E h=>?_) (λcdv A outer s H vs Q E hr h=>?_)
 ·obtain⟨x,dx,pk,m,n,rfl,_⟩:=h
  rfl
 ·obtain⟨x,dx,pk,m,n,rfl,hx,hj,hm,hn,k⟩:=h
  have hu:=hr.units
  have hsz:sizeLine=16777216:=Aq
  refine exQ (jg (jl (i:=2) zz.nd rfl (by first|exact Or.inl rfl|exact Or.inr rfl) (j5 (ja (j9 jc) jc)))
  (jg (yp Iv rfl (yu rfl T.n_range (ja (qpv 1) jc)) (jt (i:=3) zz.nd rfl (by first|exact Or.inl rfl|exact Or.inr rfl)) (ji (jl (i:=2) zz.nd rfl (by first|exact Or.inl rfl|exact Or.inr rfl) (jj G26z (hr.mono (by decide)) rfl T.m26z F26z.kp b26z .nil jo (ja (qpv 2) (ja (z4 (K:=K) rfl (qpv 0)) jc))))))
  (ji (jp (qpv 2))))) ?_
  simp!
  refine⟨by omega,λt ht=>⟨by omega,λq hq=>⟨by omega,by omega,?_⟩⟩⟩
  rw[Int.toNat_natCast]
  refine jcv (λj σ H'=>∃(v:Option V)(q:Addr)(us:List V),σ=[some (.ref x),some (.int (n:Int)),some (.ref q),v]/\H' q=some (.lst us)/\CL H' us (allC m j)/\H q=none/\Kp [] H H') ?_ ?_ ?_
  ·have k1:=((Kp.refl [] H).new (o:=.tup []) ht).new (o:=.lst [V.ref t]) hq
   exact⟨none,q,[.ref t],rfl,jb,.cons ⟨t,rfl,by rw[jd (je jb hq),jb];rfl⟩ .nil,((Kp.refl [] H).new (o:=.tup []) ht).free hq,k1⟩
  ·rintro j σ H1 hj1 ⟨v,q,us,rfl,hq1,cl,hq0,kp⟩
   have b1:=hj (j+1) (by omega)
   rw[Nat.pow_succ]at b1
   simp!
   refine fld0 rfl (kp.old _ _ hx Ae) T.rc.cls T.rc.many rfl ?_
   refine⟨q,m,us,allC m j,rfl,hq1,cl,by rw[jc4];exact b1,hm,λc hc=>by rw[(jc9 hc).1];omega,λp us' H2 hp hp2 cl2 k2=>?_⟩
   exact⟨_,p,⟨rfl,rfl⟩,us',hp2,cl2,kp.free hp,kp.trans k2⟩
  ·rintro σ H1 ⟨v,q,us,rfl,hq1,cl,hq0,kp⟩
   simp!
   exact k q us H1 hq0 hq1 cl kp
def jlr(C:Addr):Sp:=λvs H Q _=>∃(x dx pk c:Addr)(m:Nat)(cs:List Nat),vs=[.ref x,.ref c]/\H x=some (.ins C dx (CS m pk))/\H c=some (.lst (iV cs))/\(∀p∈cs,p<m)/\(∀j,j<=cs.length->m^j<=1000000)/\m<=1000000/\Q (.int (num m cs:Nat)) H
abbrev y3:Stmt:=jhu (top 12) 2
theorem zr:FnScope ["self","choice","number","place"] ["self","choice"] (jh y3):=⟨rfl,rfl,rfl,by decide +kernel,rfl,by decide +kernel,by decide +kernel⟩
theorem ok_number_of{f C:Addr}{fd:FuncData}(F:Fun K "number_of" "Choices.number_of" y3 f fd)(rc:CK K C):FnOk P w K mg base CX0 1 f fd ["self","choice"] (jlr C):=by
 refine F.ok zr (λvs H Q E h=>?_) (λcdv A outer s H vs Q E hr h=>?_)
 ·obtain⟨x,dx,pk,c,m,cs,rfl,_⟩:=h
  rfl
 ·obtain⟨x,dx,pk,c,m,cs,rfl,hx,hc,hp,hj,hm,k⟩:=h
  have hu:=hr.units
  have hsz:sizeLine=16777216:=Aq
  refine exQ (jg (jl (i:=2) zr.nd rfl (by first|exact Or.inl rfl|exact Or.inr rfl) jf)
  (jg (yp Iv rfl (kf (K:=K) (qpv 1) rfl) (jt (i:=3) zr.nd rfl (by first|exact Or.inl rfl|exact Or.inr rfl)) (ji (jl (i:=2) zr.nd rfl (by first|exact Or.inl rfl|exact Or.inr rfl) (jq j8 (jq y8 (qpv 2) (z4 (K:=K) rfl (qpv 0))) (qpv 3)))))
  (ji (jp (qpv 2))))) ?_
  simp! [hc]
  refine jcs (xs:=iV cs) (λi σ H'=>H'=H/\∃v:Option V,σ=[some (.ref x),some (.ref c),some (.int (num m (cs.take i):Nat)),v]) ?_ ?_ ?_ ?_
  ·exact⟨rfl,none,rfl⟩
  ·rintro i σ H' _ ⟨rfl,_⟩
   exact hc
  ·rintro i y σ H' hy ⟨rfl,v,rfl⟩
   rw[iV,Ax]at hy
   obtain⟨p,hpi,rfl⟩:∃p:Nat,cs[i]?=some p/\y=.int (p:Int):=by
    cases e:cs[i]? with
    |none=>rw[e]at hy;cases hy
    |some j=>rw[e]at hy;exact⟨j,rfl,(Av hy).symm⟩
   have hil:i<cs.length:=(Ag.mp hpi).1
   have b1:=jpy m (cs.take i) λq hq=>hp q (U7 hq)
   rw[A5,Yx (by omega)]at b1
   have b2:=hj i (by omega)
   simp!
   refine fld0 rfl hx rc.cls rc.many rfl ?_
   refine⟨.inl ⟨by omega,by omega⟩,rfl,?_⟩
   refine⟨?_,_,rfl⟩
   rw[jcp hpi,jiu,Int.natCast_add,Int.natCast_mul]
  ·rintro σ H' ⟨rfl,v,rfl⟩
   rw[iV,Ad,Oh]
   simp!
   exact k
end
def OkS(M:List Str):Prop:=∀y∈M,PyData.strOk y=true
theorem jf9:∀l:List Str,OkS l->PyData.canLayAll0 (l.map PyData.str)=true
 |[],_=>rfl
 |x::l,h=>by simp[PyData.canLayAll0,PyData.canLay0,jf9 l λy hy=>h y (.tail _ hy),h x (.head _)]
theorem jgb:∀l:List Str,PyData.depthAll (l.map PyData.str)<=1
 |[]=>Ou _
 |x::l=>by simp only[A9,PyData.depthAll,PyData.depth];have:=jgb l;omega
theorem eqvS(x y:Str):PyData.eqv (.str x) (.str y)=decide (x=y):=by rw[U1];simp[PyData.eqv]
theorem idxS{l:List Str}{y:Str}(h:y∈l):l[l.idxOf y]?=some y/\∀m x,m<l.idxOf y->l[m]?=some x->¬x=y:=by
 refine⟨by rw[Am (Oq h),List.getElem_idxOf],?_⟩
 clear h
 induction l with
 |nil=>intro m x hm;simp at hm
 |cons z l ih =>
  intro m x hm hx e
  by_cases hz:z=y
  ·rw[hz]at hm;simp at hm
  ·have:(z::l).idxOf y=l.idxOf y+1:=by rw[List.idxOf_cons,beq_false_of_ne hz];rfl
   cases m with
   |zero=>simp at hx;exact hz (hx.trans e)
   |succ m=>simp at hx;exact ih m x (by omega) hx e
theorem jd7{H:Hp}{l:Addr}{M:List Str}{y:Str}{Q:VK}(e:FzT H l (M.map V.str))(ok:OkS M)(hy:y∈M)(q:Q (.int (M.idxOf y:Nat)) H):jfg (.ref l) [.str y] H Q:=by
 obtain⟨h1,h2⟩:=idxS hy
 refine⟨M.map V.str,M.map PyData.str,.str y,M.idxOf y,e,Reps.strs _ M,by simp[Rep],jf9 M ok,by simp[PyData.canLay0,ok y hy],Io (jgb M) (by decide),⟨.str y,by rw[Ax,h1];rfl,by rw[eqvS];simp⟩,λm d hm hd=>?_,q⟩
 rw[Ax]at hd
 obtain⟨x,hx,rfl⟩:=Ut.mp hd
 rw[eqvS]
 exact Ir (h2 m x hm hx)
theorem jda{S:List Addr}{H H1 H2:Hp}(k:Kp [] H H1)(k2:Kp S H1 H2)(hS:∀b∈S,H b=none):Kp [] H H2:=⟨λa o e _=>k2.old a o (k.old a o e (by simp)) (λm=>by rw[hS a m]at e;cases e),λa xs e=>k2.tup _ _ (k.tup _ _ e),λa o e=>let⟨o',e'⟩:=k.dom a o e;k2.dom a o' e'⟩
theorem CH.le{P:Program}{w:World}{H0 H:Hp}{x C dx pk:Addr}{m n n':Nat}(c:CH P w H0 H x C dx pk m n)(h:n<=n'):CH P w H0 H x C dx pk m n':=let⟨G,dp,g⟩:=c.dp;⟨c.hx,⟨G,dp.le h,g⟩,c.dom⟩
theorem jkx{c:List Nat}{i:Nat}(h:i<c.length):atI (iV c) (i:Int)=some (.int (c.getD i 0:Nat)):=jcm (by rw[iV,Ax,Ak,Am h];rfl)
def LL(H0 H:Hp)(us:List V)(cs:List (List Nat)):Prop:=Paired (λv c=>∃p,v=.ref p/\H0 p=none/\H p=some (.lst (iV c))) us cs
theorem LL.kp{S:List Addr}{H0 H H':Hp}{us:List V}{cs:List (List Nat)}(h:LL H0 H us cs)(k:Kp S H H')(hS:∀b∈S,∃o,H0 b=some o):LL H0 H' us cs:=Paired.mapP h λ_ _ ⟨p,e,n,g⟩=>⟨p,e,n,k.old _ _ g λz=>by obtain⟨o,q⟩:=hS p z;rw[n]at q;cases q⟩
def spNW(P:Program)(w:World)(C:Addr):Sp:=λvs H Q _=>∃(x dx pk a b:Addr)(m n:Nat)(H0:Hp)(F M:List Str),vs=[.ref x,.ref a,.ref b]/\CH P w H0 H x C dx pk m n/\FzT H a (F.map V.str)/\FzT H b (M.map V.str)/\(∀y∈F,y∈M)/\OkS M/\F.length<=99/\(∀j,j<=max M.length F.length->m^j<=1000000)/\m<=1000000/\M.length<=99/\n<1000000/\(∃o,H0 pk=some o) /\
 ∀p H',CH P w H0 H' x C dx pk m (n+1)->H0 p=none->H' p=some (.lst (iV (nums m F M)))->Kp [pk] H H'->Q (.ref p) H'
structure TNW(K:PySem.W.Frag)(mg:Str->Option Value)(C fa fn:Addr):Prop where
 n_len:mg "len"=none
 rc:CK K C
 cls:Cls K C
 d_all_of:Meth K C "all_of" fa
 d_number_of:Meth K C "number_of" fn
section
variable{P:Program}{w:World}{K:PySem.W.Frag}{mg:Str->Option Value}{base:Heap}
abbrev j4:Stmt:=jhu (top 12) 3
theorem zm:FnScope ["self","names","more","spots","chosen"] ["self","names","more"] (jh j4):=⟨rfl,rfl,rfl,by decide +kernel,rfl,by decide +kernel,by decide +kernel⟩
theorem ok_numbers_within{f C fa fn:Addr}{fd fda fdn:FuncData}(F:Fun K "numbers_within" "Choices.numbers_within" j4 f fd)(T:TNW K mg C fa fn)(b13z:Binds K fda ["self","names"] [])(G13z:FnOk P w K mg base CX0 2 fa fda ["self","names"] (jlp C))
  (b25z:Binds K fdn ["self","choice"] []) (G25z:FnOk P w K mg base CX0 1 fn fdn ["self","choice"] (jlr C)):FnOk P w K mg base CX0 3 f fd ["self","names","more"] (spNW P w C):=by
 refine F.ok zm (λvs H Q E h=>?_) (λcdv A outer s H vs Q E hr h=>?_)
 ·obtain⟨x,dx,pk,a,b,m,n,H0,F,M,rfl,_⟩:=h
  rfl
 ·obtain⟨x,dx,pk,a,b,m,n,H0,F,M,rfl,ch,ha,hb,hs,okM,hF,hj,hm,hM,hn,h0,k⟩:=h
  have hu:=hr.units
  have hsz:sizeLine=16777216:=Aq
  have hu2:(A.deeper (PyProof.Rows.envOfC (Str.ofString "Choices.numbers_within") (jh j4) s.heap.objs.size f cdv)).units+2<cLine:=by omega
  refine exQ (jz (j0 (jca (jbc (κ:=PKd.tt P w) rfl rfl hu2 (j9 (ja (qpv 1) (ja (qpv 2) jc))) (z4 (K:=K) rfl (qpv 0))) (by with_unfolding_all rfl)) (jg (jl (i:=3) zm.nd rfl (by first|exact Or.inl rfl|exact Or.inr rfl) (yc rfl (jch (sc:=jh j4) (N:=["self","names","more","spots","chosen"]) (Nc:=["name","more"]) (js:=[none,some 2]) (by decide +kernel)) (jb8 (K:=K) (qpv 1) rfl) (λ_ _ _ _=>(jt (i:=0) (show List.Nodup [("name":Str),("more":Str)]from by decide +kernel) rfl (by first|exact Or.inl rfl|exact Or.inr rfl))) (λ_ _ _ _=>(jba W0 W1 (jav hu) (qpv 1) (ja (qpv 0) jc)))))
  (jg (qps_setcC (i:=4) zm.nd rfl (by first|exact Or.inl rfl|exact Or.inr rfl) rfl (jk0 (sc:=jh j4) (N:=["self","names","more","spots","chosen"]) (Nc:=["choice","spots"]) (js:=[none,some 3]) (by decide +kernel)) (kf (K:=K) (z5 (qpv 0) T.cls T.d_all_of G13z (hr.mono (by decide)) b13z .nil jo (ja (jv yw (by rfl) T.n_len kc (ja (qpv 2) jc)) jc)) rfl) (λ_ _ _ _=>(jt (i:=0) (show List.Nodup [("choice":Str),("spots":Str)]from by decide +kernel) rfl (by first|exact Or.inl rfl|exact Or.inr rfl))) (λ_ _ _ _=>(yc rfl (jch (sc:=jn2 {kind:=.function,names:=[(".0",.local),("choice",.cell),("spots",.free)],isGenerator:=false,isCoroutine:=false} (jh j4)) (N:=["choice","spots"]) (Nc:=["spot","choice"]) (js:=[none,some 0]) (by decide +kernel)) (kf (K:=K) (qpv 1) rfl) (λ_ _ _ _=>(jt (i:=0) (show List.Nodup [("spot":Str),("choice":Str)]from by decide +kernel) rfl (by first|exact Or.inl rfl|exact Or.inr rfl))) (λ_ _ _ _=>(jk ix_U (qpv 1) (qpv 0) (λ_ _=>rfl))))))
  (ji (jbz (κ:=PKd.tt P w) rfl rfl hu2 (z4 (K:=K) rfl (qpv 0)) (j9 (ja (qpv 1) (ja (qpv 2) jc))) (yc rfl (jch (sc:=jh j4) (N:=["self","names","more","spots","chosen"]) (Nc:=["choice","self"]) (js:=[none,some 0]) (by decide +kernel)) (kf (K:=K) (qpv 4) rfl) (λ_ _ _ _=>(jt (i:=0) (show List.Nodup [("choice":Str),("self":Str)]from by decide +kernel) rfl (by first|exact Or.inl rfl|exact Or.inr rfl))) (λ_ _ _ _=>(z5 (qpv 1) T.cls T.d_number_of G25z (hr.mono (by decide)) b25z .nil jo (ja (qpv 0) jc)))) rfl)))) ju)
  (ji (jp (jbv (κ:=PKd.tt P w) rfl rfl hu2 (z4 (K:=K) rfl (qpv 0)) (j9 (ja (qpv 1) (ja (qpv 2) jc))) (λ_ _=>rfl))))) ?_
  refine⟨λσ H'=>∃v3 v4:Option V,σ=[some (.ref x),some (.ref a),some (.ref b),v3,v4]/\Kp [pk] H H'/\CH P w H0 H' x C dx pk m (n+1)/\∃G,DP (PKd.tt P w) H' pk G (n+1)/\∃p,G (kS F,kS M)=some (.ref p)/\H0 p=none/\H' p=some (.lst (iV (nums m F M))),?_,?_⟩
  ·simp!
   refine⟨by omega,λt ht=>?_⟩
   have k1:Kp [] H (upd H t (.tup [.ref a,.ref b])):=(Kp.refl _ H).new ht
   have et:upd H t (.tup [.ref a,.ref b]) t=_:=jb
   generalize upd H t (.tup [.ref a,.ref b])=H1 at k1 et⊢
   have ch1:=ch.keep0 k1
   have ha1:=ha.kp0 k1
   have hb1:=hb.kp0 k1
   refine fld0 rfl ch1.hx T.rc.cls T.rc.known rfl ?_
   obtain⟨G,dp,g⟩:=ch1.dp
   have ka:∀{H':Hp}{t:Addr},H' t=some (.tup [.ref a,.ref b])->FzT H' a (F.map V.str)->FzT H' b (M.map V.str)->KA (PKd.tt P w) H' (kS F,kS M) t:=λe1 e2 e3=>⟨.ref a,.ref b,e1,⟨a,rfl,by rw[jfs];exact e2⟩,⟨b,rfl,by rw[jfs];exact e3⟩⟩
   refine⟨pk,rfl,G,n,dp,(kS F,kS M),ka et ha1 hb1,?_⟩
   cases e:G (kS F,kS M)with
   |some v =>
    obtain⟨p,rfl,hp0,hp⟩:=g F M v e
    rw[At λh=>by simp at h]
    exact⟨none,none,⟨rfl,rfl⟩,k1.mono (by simp),ch1.le (by omega),G,dp.le (by omega),p,e,hp0,hp⟩
   |none =>
    rw[Ap (show(!(none:Option V).isSome)=true from rfl)]
    refine⟨⟨_,ha1.sq⟩,λD hD=>jgr (λv=>match v with|.str y=>.int (M.idxOf y:Nat)|_=>.non) ha1 hD (by rw[Ad];omega) (λu hu l Q' q=>?_) λv3=>?_⟩
    ·obtain⟨y,hy,rfl⟩:=Ay.mp hu
     have hb2:FzT (upd H1 D (.lst l)) b (M.map V.str):=hb1.kp0 ((Kp.refl [] H1).new hD)
     refine⟨_,rfl,⟨b,_,rfl,hb2⟩,_,rfl,?_⟩
     exact jd7 hb2 okM (hs y hy) q
    have k2:Kp [] H1 (upd H1 D (.lst ((F.map V.str).map λv=>match v with|.str y=>.int (M.idxOf y:Nat)|_=>.non))):=(Kp.refl [] H1).new hD
    have eD:upd H1 D (.lst ((F.map V.str).map λv=>match v with|.str y=>.int (M.idxOf y:Nat)|_=>.non)) D=some (.lst (iV (F.map λy=>M.idxOf y))):=by rw[jb,iV,Ip,Ip];rfl
    generalize upd H1 D (.lst ((F.map V.str).map λv=>match v with|.str y=>.int (M.idxOf y:Nat)|_=>.non))=H2 at k2 eD⊢
    have ch2:=ch1.keep0 k2
    have hb2:=hb1.kp0 k2
    refine⟨dx,_,ch2.hx,rfl,M.map V.str,.inr hb2.sq,?_⟩
    rw[Ad]
    refine⟨x,dx,pk,m,M.length,rfl,ch2.hx,λj hj1=>hj j (by omega),hm,hM,λq us H3 hq hq3 cl k3=>?_⟩
    simp! [hq3]
    intro D1 hD1
    have ul:us.length=(allC m M.length).length:=Au cl
    have cb:(allC m M.length).length<=1000000:=by rw[jc4];exact hj _ (by omega)
    have nq:q≠D1:=je hq3 hD1
    have nD:D≠D1:=je (k3.old _ _ eD Ae) hD1
    obtain⟨H4,e4⟩:∃H4,H4=upd H3 D1 (.lst []):=⟨_,rfl⟩
    have k4:Kp [] H3 H4:=by rw[e4];exact(Kp.refl [] H3).new hD1
    have eD1:H4 D1=some (.lst []):=by rw[e4,jb]
    rw[<-e4]
    have eD4:=k4.old _ _ (k3.old _ _ eD Ae) (by simp)
    have k13:Kp [] H H4:=((k1.trans k2).trans k3).trans k4
    refine jcs (xs:=us) (λi σ H'=>∃(v:Option V)(ws:List V),σ=[v,some (.ref D)]/\H' D1=some (.lst ws)/\LL H4 H' ws (((allC m M.length).take i).map λc=>F.map (asg M c))/\Kp [D1] H4 H') ?_ ?_ ?_ ?_
    ·exact⟨none,[],rfl,eD1,.nil,Kp.refl _ _⟩
    ·rintro i σ H' _ ⟨v,ws,rfl,_,_,kp⟩
     exact kp.old _ _ (k4.old _ _ hq3 Ae) (by simpa using nq)
    ·rintro i y σ H5 hy ⟨v,ws,rfl,hD5,ll,kp⟩
     obtain⟨c,hci,t1,rfl,ht1⟩:=jat cl hy
     have ht5:=kp.tup _ _ (k4.tup _ _ ht1)
     have eD5:=kp.old _ _ eD4 (by simpa using nD)
     have hcm:=jc9 (A6 hci)
     have hil:i<(allC m M.length).length:=(Ag.mp hci).1
     have wl:ws.length=i:=by rw[Au ll,Ad,A5];omega
     unfold jc3
     simp! [eD5]
     intro D2 hD2
     refine jed (λv=>match v with|.int j=>.int (c.getD j.toNat 0:Nat)|_=>.non) eD5 hD2 (by simp[iV];omega) (λu hu l Q' q'=>?_) λv'=>?_
     ·obtain⟨j,hj',rfl⟩:=Ay.mp hu
      obtain⟨y,hy,rfl⟩:=Ay.mp hj'
      have hyl:=Oq (hs y hy)
      have ht6:upd H5 D2 (.lst l) t1=some (.tup (iV c)):=by rw[jd (je ht5 hD2)];exact ht5
      simp! [ht6]
      exact⟨_,jkx (by rw[hcm.1];exact hyl),q'⟩
     have nD2:D1≠D2:=je hD5 hD2
     have k6:Kp [D1] H5 (upd H5 D2 (.lst ((iV (F.map λy=>M.idxOf y)).map λv=>match v with|.int j=>.int (c.getD j.toNat 0:Nat)|_=>.non))):=(Kp.refl [D1] H5).new hD2
     have e6:upd H5 D2 (.lst ((iV (F.map λy=>M.idxOf y)).map λv=>match v with|.int j=>.int (c.getD j.toNat 0:Nat)|_=>.non)) D2=some (.lst (iV (F.map (asg M c)))):=by
      rw[jb,iV,iV,Ip,Ip,Ip];rfl
     have hD6:upd H5 D2 (.lst ((iV (F.map λy=>M.idxOf y)).map λv=>match v with|.int j=>.int (c.getD j.toNat 0:Nat)|_=>.non)) D1=some (.lst ws):=by rw[jd nD2];exact hD5
     generalize upd H5 D2 (.lst ((iV (F.map λy=>M.idxOf y)).map λv=>match v with|.int j=>.int (c.getD j.toNat 0:Nat)|_=>.non))=H6 at k6 e6 hD6⊢
     have hS:∀b∈[D1],∃o,H4 b=some o:=λb hb=>by rw[Ah.mp hb];exact⟨_,eD1⟩
     have k7:Kp [D1] H6 (upd H6 D1 (.lst (ws++[.ref D2]))):=(Kp.refl _ H6).set hD6 (.inl (.head _))
     refine⟨ws,by rw[hD6];rfl,by omega,?_,(kp.trans k6).trans k7⟩
     rw[jcp hci,I0]
     exact O9 ((ll.kp k6 hS).kp k7 hS) ⟨D2,rfl,kp.free hD2,by rw[jd nD2.symm];exact e6⟩
    rintro σ H5 ⟨v,ws,rfl,hD5,ll,kp⟩
    rw[ul,Oh]at ll
    have k35:Kp [] H3 H5:=jda k4 kp λb hb=>by rw[Ah.mp hb];exact hD1
    have ch5:=(ch2.keep0 k3).keep0 k35
    have wl:ws.length=(allC m M.length).length:=by rw[Au ll,Ad]
    simp! [hD5]
    intro D3 hD3
    have n13:D1≠D3:=je hD5 hD3
    refine jcs (xs:=ws) (λi σ H'=>∃v:Option V,σ=[v,some (.ref x)]/\H'=upd H5 D3 (.lst (iV (((allC m M.length).take i).map λc=>num m (F.map (asg M c)))))) ?_ ?_ ?_ ?_
    ·exact⟨none,rfl,rfl⟩
    ·rintro i σ H' _ ⟨v,rfl,rfl⟩
     rw[jd n13];exact hD5
    ·rintro i y σ H' hy ⟨v,rfl,rfl⟩
     obtain⟨c',hci',p,rfl,hp4,hp5⟩:=jat ll hy
     rw[Ax]at hci'
     obtain⟨c,hci,rfl⟩:=Ut.mp hci'
     have hcm:=jc9 (A6 hci)
     have hil:i<(allC m M.length).length:=(Ag.mp hci).1
     unfold jc3
     simp!
     have hx6:∀o,upd H5 D3 o x=some (.ins C dx (CS m pk)):=λo=>by rw[jd (je ch5.hx hD3)];exact ch5.hx
     refine⟨dx,_,hx6 _,rfl,x,dx,pk,p,m,F.map (asg M c),rfl,hx6 _,by rw[jd (je hp5 hD3)];exact hp5,λq hq=>?_,λj hj1=>hj j (by rw[Ad]at hj1;omega),hm,?_⟩
     ·obtain⟨y,hy,rfl⟩:=Ay.mp hq
      exact jl0 hcm.1 hcm.2 (hs y hy)
     ·refine⟨_,by rw[jb];rfl,by simp[iV];omega,?_⟩
      rw[jdb,jcp hci]
      simp[iV]
    rintro σ H' ⟨v,rfl,rfl⟩
    rw[wl,Oh]
    have k6:Kp [] H5 (upd H5 D3 (.lst (iV ((allC m M.length).map λc=>num m (F.map (asg M c)))))):=(Kp.refl [] H5).new hD3
    have e6:upd H5 D3 (.lst (iV ((allC m M.length).map λc=>num m (F.map (asg M c))))) D3=some (.lst (iV (nums m F M))):=jb
    generalize upd H5 D3 (.lst (iV ((allC m M.length).map λc=>num m (F.map (asg M c)))))=H6 at k6 e6⊢
    have k16:Kp [] H1 H6:=((k2.trans k3).trans k35).trans k6
    have ch6:=ch5.keep0 k6
    have hD0:H0 D3=none:=ch5.free hD3
    dsimp only
    refine fld0 rfl ch6.hx T.rc.cls T.rc.known rfl ⟨by omega,λt2 ht2=>?_⟩
    have k7:Kp [] H6 (upd H6 t2 (.tup [.ref a,.ref b])):=(Kp.refl _ H6).new ht2
    have et2:upd H6 t2 (.tup [.ref a,.ref b]) t2=_:=jb
    generalize upd H6 t2 (.tup [.ref a,.ref b])=H7 at k7 et2⊢
    have k17:=k16.trans k7
    have ch7:=ch6.keep0 k7
    have dp7:=dp.keep k17 (by simp) (by simp)
    obtain⟨φ0,epk⟩:=dp7.ext
    refine⟨pk,rfl,G,n,dp7,by omega,(kS F,kS M),ka et2 (ha1.kp0 k17) (hb1.kp0 k17),λφ dpφ=>?_⟩
    have nl:∀{p:Addr}{xs:List V},H7 p=some (.lst xs)->p≠pk:=λe z=>by rw[z,epk]at e;cases e
    have k8:Kp [pk] H7 (upd H7 pk (.ext φ)):=by
     refine⟨λc v e' n=>?_,λc xs e'=>?_,λc v e'=>?_⟩
     ·rw[jd λz=>n (by rw[z];simp)];exact e'
     ·rw[jd λz=>by rw[z,epk]at e';cases e'];exact e'
     ·by_cases z:c=pk
      ·rw[z,jb];exact⟨_,rfl⟩
      ·rw[jd z];exact⟨v,e'⟩
    have e7:=k7.old _ _ e6 Ae
    have e8:upd H7 pk (.ext φ) D3=some (.lst (iV (nums m F M))):=by rw[jd (nl e7)];exact e7
    refine⟨_,_,⟨rfl,rfl⟩,((k1.trans k17).mono (by simp)).trans k8,⟨?_,⟨_,dpφ,λF' M' v' e'=>?_⟩,λc o e'=>?_⟩,_,dpφ,D3,Ap rfl,hD0,e8⟩
    ·rw[jd λz=>by have:=ch7.hx;rw[z,epk]at this;cases this];exact ch7.hx
    ·by_cases z:(kS F',kS M')=(kS F,kS M)
     ·rw[Ap z]at e'
      cases e'
      rw[jmi (Prod.mk.inj z).1,jmi (Prod.mk.inj z).2]
      exact⟨D3,rfl,hD0,e8⟩
     ·rw[At z]at e'
      obtain⟨p,h1,h2,h3⟩:=g F' M' v' e'
      have h4:=k17.old _ _ h3 Ae
      exact⟨p,h1,h2,by rw[jd (nl h4)];exact h4⟩
    ·obtain⟨o',e2⟩:=ch7.dom c o e'
     exact k8.dom c o' e2
  rintro _ H1 ⟨v3,v4,rfl,kp,ch1,G,dp,p,gp,hp0,hp⟩
  simp!
  refine fld0 rfl ch1.hx T.rc.cls T.rc.known rfl ⟨by omega,λt ht=>?_⟩
  have k1:Kp [] H1 (upd H1 t (.tup [.ref a,.ref b])):=(Kp.refl _ H1).new ht
  have et:upd H1 t (.tup [.ref a,.ref b]) t=_:=jb
  generalize upd H1 t (.tup [.ref a,.ref b])=H2 at k1 et⊢
  have hS:∀c∈[pk],∃o,H c=some o/\∀ob u,o≠.frz ob u:=λc hc=>by
   obtain⟨G,dp,_⟩:=ch.dp
   obtain⟨φ,e⟩:=dp.ext
   rw[Ah.mp hc]
   exact⟨_,e,λ_ _ z=>by cases z⟩
  refine⟨pk,rfl,G,n+1,dp.keep k1 (by simp) (by simp),(kS F,kS M),⟨.ref a,.ref b,et,⟨a,rfl,by rw[jfs];exact(ha.stay kp hS).kp0 k1⟩,⟨b,rfl,by rw[jfs];exact(hb.stay kp hS).kp0 k1⟩⟩,_,gp,?_⟩
  exact k p H2 (ch1.keep0 k1) hp0 (k1.old _ _ hp Ae) (kp.trans (k1.mono (by simp)))
end
abbrev Sm:=(Str->Nat)->Bool
def sAt(S:List Sm)(i:Nat):Sm:=S.getD i λ_=>false
def sm(t:List Nat)(S:List Sm):RS->Sm
 |.yes=>λ_=>true
 |.is x a=>λρ=>decide ((⟨#[t.getD (ρ x) 0]⟩:Str)=a)
 |.ahead x y=>λρ=>decide (ρ x<ρ y)
 |.no i=>λρ=>!sAt S i ρ
 |.bin true i j=>λρ=>sAt S i ρ && sAt S j ρ
 |.bin false i j=>λρ=>sAt S i ρ || sAt S j ρ
 |.qn true x i=>λρ=>((List.range t.length).map λp=>sAt S i (up ρ x p)).any id
 |.qn false x i=>λρ=>((List.range t.length).map λp=>sAt S i (up ρ x p)).all id
def sms(t:List Nat)(rs:List RS):List Sm:=rs.foldl (λS r=>S++[sm t S r]) []
theorem jdg(t:List Nat)(rs:List RS)(r:RS):sms t (rs++[r])=sms t rs++[sm t (sms t rs) r]:=by simp[sms,W4]
theorem jdf(t:List Nat):∀rs:List RS,(sms t rs).length=rs.length:=jlm rfl λl x ih=>by rw[jdg,Aw,Aw,ih];rfl
theorem jja{S:List Sm}{f:Sm}{i:Nat}(h:i<S.length):sAt (S++[f]) i=sAt S i:=jdi h
theorem jfh{S:List Sm}{f:Sm}:sAt (S++[f]) S.length=f:=jeg
theorem jp8{f:Sm}{F G:List Str}{x:Str}(h:Dep f F)(hs:∀y∈F,y≠x->y∈G){ρ ρ':Str->Nat}(e:∀y∈G,ρ y=ρ' y)(p:Nat):f (up ρ x p)=f (up ρ' x p):=h _ _ λy hy=>by
 unfold up
 by_cases z:y=x
 ·rw[Ap z,Ap z]
 ·rw[At z,At z];exact e y (hs y hy z)
theorem jp2{t:List Nat}{S:List Sm}{F:List (List Str)}{l:List Str}{r:RS}{zs:List Str}{k:Nat}(ok:r.ok zs k)(hS:∀i,i<k->Dep (sAt S i) (F.getD i []))(cn:Cn l (fm F r)):Dep (sm t S r) l:=by
 intro ρ ρ' e
 have e':∀x∈fm F r,ρ x=ρ' x:=λx hx=>e x ((cn.me x).mpr hx)
 cases r with
 |yes=>rfl
 |is x a=>simp only[sm];rw[e' x (by simp[fm])]
 |ahead x y=>simp only[sm];rw[e' x (by simp[fm]),e' y (by simp[fm])]
 |no i=>simp only[sm];rw[hS i ok ρ ρ' e']
 |bin b i j =>
  have h1:=hS i ok.1 ρ ρ' λx hx=>e' x (Uc _ hx)
  have h2:=hS j ok.2 ρ ρ' λx hx=>e' x (A2 _ hx)
  cases b <;> (simp only[sm];rw[h1,h2])
 |qn b x i =>
  have h1:=λp=>jp8 (x:=x) (hS i ok.2) (G:=fm F (.qn b x i)) (λy hy hn=>Uz.mpr ⟨hy,by simp[hn]⟩) e' p
  cases b <;> (simp only[sm];rw[We λp _=>h1 p])
theorem jjf{t:List Nat}{zs:List Str}{F:List (List Str)}{rs:List RS}(ok:okR zs rs)(cf:CF zs F rs):∀n,n<=rs.length->∀k,k<n->Dep (sAt (sms t (rs.take n)) k) (F.getD k []):=by
 intro n
 induction n with
 |zero=>intro _ k hk;omega
 |succ n ih =>
  intro hn k hk
  have er:=Am (show n<rs.length by omega)
  have hl:(sms t (rs.take n)).length=n:=by rw[jdf,A5];omega
  rw[jcp er,jdg]
  by_cases h:k<n
  ·rw[jja (by omega)];exact ih (by omega) k h
  ·have:k=(sms t (rs.take n)).length:=by omega
   rw[this,jfh,hl]
   exact jp2 (ok n _ er) (λi hi=>ih (by omega) i hi) (cf.at_ n _ er)
theorem jkm{t:List Nat}{zs:List Str}{F:List (List Str)}{rs:List RS}(ok:okR zs rs)(cf:CF zs F rs)(k:Nat)(hk:k<rs.length):Dep (sAt (sms t rs) k) (F.getD k []):=by
 have:=jjf (t:=t) ok cf rs.length (Af _) k hk
 rwa[Oh]at this
theorem jpe{t:List Nat}{S:List Sm}{l:List Str}(cn:Cn l []):tab t.length l (sm t S .yes)=[true]:=by
 have:l=[]:=List.eq_nil_iff_forall_not_mem.mpr λx hx=>by have:=(cn.me x).mp hx;cases this
 subst this
 rfl
theorem jnf(m:Nat):allC m 1=(List.range m).map λp=>[p]:=by simp[allC]
theorem jp5{t:List Nat}{S:List Sm}{l:List Str}{x a:Str}(cn:Cn l [x]):tab t.length l (sm t S (.is x a))=t.map λc=>decide ((⟨#[c]⟩:Str)=a):=by
 have:l=[x]:=cn.one (jkn x) λ_=>Iff.rfl
 subst this
 unfold tab
 rw[show([x]:List Str).length=1 from rfl,jnf,Ip]
 refine List.ext_getElem (by simp) λi h1 h2=>?_
 have hi:i<t.length:=by simpa using h2
 have e0:asg [x] [i] x=i:=by simp[asg]
 have e1:t.getD i 0=t[i]:=by rw[Ak,Am hi];rfl
 simp only[List.getElem_map,List.getElem_range,Function.comp,sm,e0,e1]
theorem jpd{t:List Nat}{S:List Sm}{F:List (List Str)}{l:List Str}{i:Nat}(cn:Cn l (F.getD i []))(ci:∃raw,Cn (F.getD i []) raw):l=F.getD i []/\tab t.length l (sm t S (.no i))=(tab t.length (F.getD i []) (sAt S i)).map (!·):=by
 obtain⟨raw,ci⟩:=ci
 have e:l=F.getD i []:=cn.one ci λx=>⟨λh=>(ci.me x).mp h,λh=>(ci.me x).mpr h⟩
 subst e
 exact⟨rfl,by unfold tab;rw[Ip];rfl⟩
theorem jpf{m:Nat}{l:List Str}(f g:Sm)(h:Bool->Bool->Bool):List.zipWith h (tab m l f) (tab m l g)=tab m l λρ=>h (f ρ) (g ρ):=by
 unfold tab
 generalize allC m l.length=cs
 induction cs with
 |nil=>rfl
 |cons c cs ih=>simp[ih]
def bV(l:List Bool):List V:=l.map V.bl
section
variable{D:Addr}{te:TE}{r:L2.St}{E:Ends}{H:Hp}
theorem jee{K:PySem.W.Frag}{a:Addr}{α:Type}{us:List V}{R:V->α->Prop}{cs:List α}(f:α->V)(ha:H a=some (.lst us))(pr:Paired R us cs)(hD:H D=none)(hz:us.length<=sizeLine)
  (he:∀u c,R u c->c∈cs->∀l Q,Q (f c) (upd H D (.lst l))->te (some u::r) (upd H D (.lst l)) Q) (hn:∀v,E.nx (v::r) (upd H D (.lst (cs.map f)))):jcn (Itl K a) (jco 0) (jc3 D te) E (none::r) (upd H D (.lst [])):=by
 have ne:a≠D:=je ha hD
 refine jcs (xs:=us) (λi σ H'=>∃v:Option V,σ=v::r/\H'=upd H D (.lst ((cs.take i).map f))) ⟨none,rfl,rfl⟩ ?_ ?_ ?_
 ·rintro i σ H' _ ⟨v,_,rfl⟩
  rw[jd ne];exact ha
 ·rintro i x σ H' hx ⟨v,rfl,rfl⟩
  have hl:i<us.length:=(Ag.mp hx).1
  obtain⟨c,hc,rc⟩:=jat pr hx
  refine he x c rc (A6 hc) _ _ ⟨_,by rw[jb];rfl,by simp;omega,some x,rfl,?_⟩
  rw[jdb,jcp hc,I0]
  rfl
 ·rintro σ H' ⟨v,rfl,rfl⟩
  rw[Au pr,Oh]
  exact hn v
end
def spAh:Sp:=λvs H Q _=>∃(a:Addr)(us:List V)(cs:List (List Nat))(i j n:Nat),vs=[.int (i:Int),.int (j:Int),.ref a]/\H a=some (.lst us)/\CL H us cs/\(∀c∈cs,c.length=n)/\i<n/\j<n/\cs.length<=1000000 /\
 ∀p H',H p=none->H' p=some (.lst (bV (cs.map λc=>decide (c.getD i 0<c.getD j 0))))->Kp [] H H'->Q (.ref p) H'
section
variable{P:Program}{w:World}{K:PySem.W.Frag}{mg:Str->Option Value}{base:Heap}
abbrev yi:Stmt:=top 9
theorem sc_ahead_truths:FnScope ["one","other","chosen"] ["one","other","chosen"] (jh yi):=⟨rfl,rfl,rfl,by decide +kernel,rfl,by decide +kernel,by decide +kernel⟩
theorem ok_ahead_truths{f:Addr}{fd:FuncData}(F:Fun K "ahead_truths" "ahead_truths" yi f fd):FnOk P w K mg base CX0 1 f fd ["one","other","chosen"] spAh:=by
 refine F.ok sc_ahead_truths (λvs H Q E h=>?_) (λcdv A outer s H vs Q E hr h=>?_)
 ·obtain⟨a,us,cs,i,j,n,rfl,_⟩:=h
  rfl
 ·obtain⟨a,us,cs,i,j,n,rfl,ha,cl,hn,hi,hj,hc,k⟩:=h
  have hu:=hr.units
  have hsz:sizeLine=16777216:=Aq
  refine exQ (ji (jp (yc rfl (jch (sc:=jh yi) (N:=["one","other","chosen"]) (Nc:=["choice","one","other"]) (js:=[none,some 0,some 1]) (by decide +kernel)) (kf (K:=K) (qpv 2) rfl) (λ_ _ _ _=>(jt (i:=0) (show List.Nodup [("choice":Str),("one":Str),("other":Str)]from by decide +kernel) rfl (by first|exact Or.inl rfl|exact Or.inr rfl))) (λ_ _ _ _=>(y4 jab (jk ix_U (qpv 0) (qpv 1) (λ_ _=>rfl)) (jk ix_U (qpv 0) (qpv 2) (λ_ _=>rfl)) (jr _)))))) ?_
  simp! [ha]
  intro D hD
  refine jee (λc=>.bl (decide (c.getD i 0<c.getD j 0))) ha cl hD (by rw[Au cl];omega) (λu c hr hm l Q' q=>?_) λv=>?_
  ·obtain⟨t,rfl,ht⟩:=hr
   have cn:=hn c hm
   have ht2:upd H D (.lst l) t=some (.tup (iV c)):=by rw[jd (je ht hD)];exact ht
   simp! [ht2]
   refine⟨_,jkx (by omega),_,jkx (by omega),?_⟩
   simp!
   rw[show decide ((c.getD i 0:Int)<(c.getD j 0:Int))=decide (c.getD i 0<c.getD j 0)from by rw[U1];simp]
   exact q
  ·exact k D _ hD (by rw[jb,bV,Ip];rfl) ((Kp.refl [] H).new hD)
def spWi(P:Program)(w:World)(C:Addr):Sp:=λvs H Q _=>∃(x dx pk t a b:Addr)(m n:Nat)(H0:Hp)(F M:List Str)(g:Sm),vs=[.ref t,.ref a,.ref b,.ref x]/\CH P w H0 H x C dx pk m n/\H t=some (.lst (bV (tab m F g)))/\FzT H a (F.map V.str)/\FzT H b (M.map V.str)/\(∀y∈F,y∈M)/\OkS M/\Dep g F/\F.length<=99/\(∀j,j<=max M.length F.length->m^j<=1000000)/\m<=1000000/\M.length<=99/\n<1000000/\(∃o,H0 pk=some o) /\
 ∀p H',CH P w H0 H' x C dx pk m (n+1)->H' p=some (.lst (bV (tab m M g)))->Kp [pk] H H'->Q (.ref p) H'
structure TWi(K:PySem.W.Frag)(C fw:Addr):Prop where
 cls:Cls K C
 d_numbers_within:Meth K C "numbers_within" fw
theorem jj5:∀(a b:List Str),PyData.eqvAll (a.map PyData.str) (b.map PyData.str)=decide (a=b)
 |[],[]=>by simp[PyData.eqvAll]
 |[],_::_=>by simp[PyData.eqvAll]
 |_::_,[]=>by simp[PyData.eqvAll]
 |x::a,y::b=>by
  rw[A9,A9,PyData.eqvAll,eqvS,jj5 a b,U1]
  simp
theorem jkk{l:List Str}(h:OkS l):SeqAt.shaped (.tuple (l.map PyData.str))=true:=by
 have:=jgb l
 simp[SeqAt.shaped,PyData.canLay0,PyData.depth,jf9 l h]
 omega
abbrev zj:Stmt:=top 10
theorem sc_widened:FnScope ["truths","names","more","choices"] ["truths","names","more","choices"] (jh zj):=⟨rfl,rfl,rfl,by decide +kernel,rfl,by decide +kernel,by decide +kernel⟩
theorem ok_widened{f C fw:Addr}{fd fdw:FuncData}(F:Fun K "widened" "widened" zj f fd)(T:TWi K C fw)(b30z:Binds K fdw ["self","names","more"] [])(G30z:FnOk P w K mg base CX0 3 fw fdw ["self","names","more"] (spNW P w C)):FnOk P w K mg base CX0 4 f fd ["truths","names","more","choices"] (spWi P w C):=by
 refine F.ok sc_widened (λvs H Q E h=>?_) (λcdv A outer s H vs Q E hr h=>?_)
 ·obtain⟨x,dx,pk,t,a,b,m,n,H0,F,M,g,rfl,_⟩:=h
  rfl
 ·obtain⟨x,dx,pk,t,a,b,m,n,H0,F,M,g,rfl,ch,ht,ha,hb,hs,okM,dg,hF,hj,hm,hM,hn,h0,k⟩:=h
  have hu:=hr.units
  have hsz:sizeLine=16777216:=Aq
  refine exQ (jz (j0 (jn (op_eqT (K:=K) rfl hu) (qpv 1) (qpv 2) (jr _)) (ji (jp (qpv 0))) ju)
  (ji (jp (yc rfl (jch (sc:=jh zj) (N:=["truths","names","more","choices"]) (Nc:=["number","truths"]) (js:=[none,some 0]) (by decide +kernel)) (kf (K:=K) (z5 (qpv 3) T.cls T.d_numbers_within G30z (hr.mono (by decide)) b30z .nil jo (ja (qpv 1) (ja (qpv 2) jc))) rfl) (λ_ _ _ _=>(jt (i:=0) (show List.Nodup [("number":Str),("truths":Str)]from by decide +kernel) rfl (by first|exact Or.inl rfl|exact Or.inr rfl))) (λ_ _ _ _=>(jk ix_U (qpv 1) (qpv 0) (λ_ _=>rfl))))))) ?_
  refine⟨λσ H'=>σ=[some (.ref t),some (.ref a),some (.ref b),some (.ref x)]/\H'=H,?_,?_⟩
  ·simp!
   refine⟨a,b,_,_,F.map PyData.str,M.map PyData.str,rfl,rfl,ha.sq,hb.sq,Reps.strs _ F,Reps.strs _ M,jkk λy hy=>okM y (hs y hy),jkk okM,_,rfl,?_⟩
   rw[jj5]
   refine ite2 (λe=>?_) (λe=>?_)
   ·have e':F=M:=of_decide_eq_true e
    subst e'
    exact k t H (ch.le (by omega)) ht (Kp.refl _ _)
   ·exact rfl
  rintro _ H' ⟨rfl,e⟩
  rw[e]
  simp!
  refine⟨dx,_,ch.hx,rfl,x,dx,pk,a,b,m,n,H0,F,M,rfl,ch,ha,hb,hs,okM,hF,hj,hm,hM,hn,h0,λp H1 ch1 hp0 hp k1=>?_⟩
  simp! [hp]
  intro D hD
  have ht1:H1 t=some (.lst (bV (tab m F g))):=k1.old _ _ ht λz=>by
   obtain⟨G,dp,_⟩:=ch.dp
   obtain⟨φ,e⟩:=dp.ext
   rw[Ah.mp z,e]at ht;cases ht
  have pr:Paired (λv (c:List Nat)=>v=.int (num m (F.map (asg M c)):Nat)) (iV (nums m F M)) (allC m M.length):=by
   unfold nums iV
   rw[Ip]
   generalize allC m M.length=cs
   induction cs with
   |nil=>exact .nil
   |cons c cs ih=>exact .cons rfl ih
  refine jee (λc=>.bl (g (asg M c))) hp pr hD (by rw[Au pr,jc4];have:=hj M.length (by omega);omega) (λu c hr' hmc l Q' q=>?_) λv=>?_
  ·subst hr'
   have ht2:upd H1 D (.lst l) t=some (.lst (bV (tab m F g))):=by rw[jd (je ht1 hD)];exact ht1
   simp! [ht2]
   exact⟨_,jcm (by rw[bV,Ax,joa dg hs hmc];rfl),q⟩
  ·have kD:Kp [] H1 (upd H1 D (.lst ((allC m M.length).map λc=>.bl (g (asg M c))))):=(Kp.refl [] H1).new hD
   exact k D _ (ch1.keep0 kD) (by rw[jb,bV,tab,Ip];rfl) (k1.trans (kD.mono (by simp)))
end
def bd(b:Bool)(l:List Bool):Bool:=if b then l.any id else l.all id
def LB(H0 H:Hp)(us:List V)(ls:List (List Bool)):Prop:=Paired (λv l=>∃p,v=.ref p/\H0 p=none/\H p=some (.lst (bV l))) us ls
theorem LB.kp{S:List Addr}{H0 H H':Hp}{us:List V}{ls:List (List Bool)}(h:LB H0 H us ls)(k:Kp S H H')(hS:∀b∈S,∃o,H0 b=some o):LB H0 H' us ls:=Paired.mapP h λ_ _ ⟨p,e,n,g⟩=>⟨p,e,n,k.old _ _ g λz=>by obtain⟨o,q⟩:=hS p z;rw[n]at q;cases q⟩
def spBd:Sp:=λvs H Q _=>∃(t:Addr)(b:Bool)(l:List Bool)(g m:Nat),vs=[.str (qw b),.ref t,.int (g:Int),.int (m:Int)]/\H t=some (.lst (bV l))/\l.length=g*m/\g<=1000000/\m<=1000000/\g*m<=1000000 /\
 ∀p H',H p=none->H' p=some (.lst (bV ((List.range g).map λq=>bd b ((l.drop (q*m)).take m))))->Kp [] H H'->Q (.ref p) H'
structure TBd(mg:Str->Option Value):Prop where
 n_range:mg "range"=none
 n_any:mg "any"=none
 n_all:mg "all"=none
theorem jpl{l:List Bool}{q m:Nat}(h:(q+1)*m<=l.length):cutV (bV l) (some ((q:Int)*(m:Int))) (some (((q:Int)+1)*(m:Int)))=bV ((l.drop (q*m)).take m):=by
 have e1:((q:Int)*(m:Int))=((q*m:Nat):Int):=by rw[Int.natCast_mul]
 have e2:(((q:Int)+1)*(m:Int))=(((q+1)*m:Nat):Int):=by rw[Int.natCast_mul];rfl
 rw[e1,e2]
 have h1:q*m<=l.length:=by rw[Wv]at h;omega
 unfold cutV
 rw[HT.sIx_nat,HT.sIx_nat,bV,Ad,Yx h1,Yx h,Wv,Nat.add_sub_cancel_left,<-List.map_drop,<-List.map_take]
 rfl
section
variable{P:Program}{w:World}{K:PySem.W.Frag}{mg:Str->Option Value}{base:Heap}
abbrev ko:Stmt:=top 11
theorem jaq:FnScope ["word","inner","groups","many","shares"] ["word","inner","groups","many"] (jh ko):=⟨rfl,rfl,rfl,by decide +kernel,rfl,by decide +kernel,by decide +kernel⟩
theorem ok_bound_truths{f:Addr}{fd:FuncData}(F:Fun K "bound_truths" "bound_truths" ko f fd)(T:TBd mg):FnOk P w K mg base CX0 1 f fd ["word","inner","groups","many"] spBd:=by
 refine F.ok jaq (λvs H Q E h=>?_) (λcdv A outer s H vs Q E hr h=>?_)
 ·obtain⟨t,b,l,g,m,rfl,_⟩:=h
  rfl
 ·obtain⟨t,b,l,g,m,rfl,ht,hl,hg,hm,hgm,k⟩:=h
  have hu:=hr.units
  have hsz:sizeLine=16777216:=Aq
  refine exQ (jg (jb0 (i:=4) jaq.nd rfl (by first|exact Or.inl rfl|exact Or.inr rfl) rfl (jch (sc:=jh ko) (N:=["word","inner","groups","many","shares"]) (Nc:=["group","inner","many"]) (js:=[none,some 1,some 3]) (by decide +kernel)) (yu rfl T.n_range (ja (qpv 2) jc)) (λ_ _ _ _=>(jt (i:=0) (show List.Nodup [("group":Str),("inner":Str),("many":Str)]from by decide +kernel) rfl (by first|exact Or.inl rfl|exact Or.inr rfl))) (λ_ _ _ _=>(zu (ja8 (K:=K) rfl) (qpv 1) (zv (jq y8 (qpv 0) (qpv 2))) (zv (jq y8 (jq j8 (qpv 0) jf) (qpv 2))))))
  (jz (j0 (jn (j3 hu) (qpv 0) jm (jr _)) (ji (jp (yc rfl (jch (sc:=jh ko) (N:=["word","inner","groups","many","shares"]) (Nc:=["share"]) (js:=[none]) (by decide +kernel)) (kf (K:=K) (qpv 4) rfl) (λ_ _ _ _=>(jt (i:=0) (show List.Nodup [("share":Str)]from by decide +kernel) rfl (by first|exact Or.inl rfl|exact Or.inr rfl))) (λ_ _ _ _=>(jv (call_anyU rfl) (by rfl) T.n_any bt_any (ja (qpv 0) jc)))))) ju)
  (ji (jp (yc rfl (jch (sc:=jh ko) (N:=["word","inner","groups","many","shares"]) (Nc:=["share"]) (js:=[none]) (by decide +kernel)) (kf (K:=K) (qpv 4) rfl) (λ_ _ _ _=>(jt (i:=0) (show List.Nodup [("share":Str)]from by decide +kernel) rfl (by first|exact Or.inl rfl|exact Or.inr rfl))) (λ_ _ _ _=>(jv (call_allU rfl) (by rfl) T.n_all bt_all (ja (qpv 0) jc)))))))) ?_
  simp!
  refine⟨by omega,by omega,?_⟩
  rw[Int.toNat_natCast]
  intro D hD
  obtain⟨H1,e1⟩:∃H1,H1=upd H D (.lst []):=⟨_,rfl⟩
  have k1:Kp [] H H1:=by rw[e1];exact(Kp.refl [] H).new hD
  have eD:H1 D=some (.lst []):=by rw[e1,jb]
  rw[<-e1]
  have hS:∀b∈[D],∃o,H1 b=some o:=λb hb=>by rw[Ah.mp hb];exact⟨_,eD⟩
  refine jcv (λi σ H'=>∃(v:Option V)(us:List V),σ=[v,some (.ref t),some (.int (m:Int))]/\H' D=some (.lst us)/\LB H1 H' us ((List.range i).map λq=>(l.drop (q*m)).take m)/\Kp [D] H1 H') ?_ ?_ ?_
  ·exact⟨none,[],rfl,eD,.nil,Kp.refl _ _⟩
  ·rintro i σ H2 hi ⟨v,us,rfl,hD2,lb,kp⟩
   have ul:us.length=i:=by rw[Au lb];simp
   have ht2:H2 t=some (.lst (bV l)):=kp.old _ _ (k1.old _ _ ht Ae) (by simpa using je ht hD)
   have hb:(i+1)*m<=g*m:=Yy m hi
   have hb2:i*m<=g*m:=Yy m (by omega)
   unfold jc3
   simp!
   rw[Int.zero_add]
   refine⟨.inl ⟨by omega,by omega⟩,.inl ⟨by omega,by omega⟩,rSlU.lst ht2 λp hp=>?_⟩
   rw[jpl (by omega)]
   have np:D≠p:=je hD2 hp
   have k3:Kp [D] H2 (upd H2 p (.lst (bV ((l.drop (i*m)).take m)))):=(Kp.refl _ H2).new hp
   have e3:upd H2 p (.lst (bV ((l.drop (i*m)).take m))) p=_:=jb
   have eD3:upd H2 p (.lst (bV ((l.drop (i*m)).take m))) D=some (.lst us):=by rw[jd np];exact hD2
   generalize upd H2 p (.lst (bV ((l.drop (i*m)).take m)))=H3 at k3 e3 eD3⊢
   have k4:Kp [D] H3 (upd H3 D (.lst (us++[.ref p]))):=(Kp.refl _ H3).set eD3 (.inl (.head _))
   refine⟨us,by rw[eD3];rfl,by omega,?_,(kp.trans k3).trans k4⟩
   rw[Yt,I0]
   exact O9 ((lb.kp k3 hS).kp k4 hS) ⟨p,rfl,kp.free hp,by rw[jd np.symm];exact e3⟩
  ·rintro σ H2 ⟨v,us,rfl,hD2,lb,kp⟩
   have k2:Kp [] H H2:=jda k1 kp λb hb=>by rw[Ah.mp hb];exact hD
   have ul:us.length=g:=by rw[Au lb];simp
   have fin:∀(fb:List Bool->Bool)(te:TE),(∀(v:V)(bs:List Bool)(H':Hp)(Q':VK),(∃p,v=.ref p/\H' p=some (.lst (bV bs)))->Q' (.bl (fb bs)) H'->te [some v] H' Q')->(∀q,fb q=bd b q) ->
     ∀D2,H2 D2=none->jcn (Itl K D) (jco 0) (jc3 D2 te) {nx:=λ_ H'=>Q (.ref D2) H',rt:=λ_ _=>False} [none] (upd H2 D2 (.lst [])):=by
    intro fb te he hb D2 hD2'
    refine jee (λbs=>.bl (fb bs)) hD2 lb hD2' (by omega) (λu bs hr' _ l' Q' q=>?_) λv=>?_
    ·obtain⟨p,rfl,_,hp⟩:=hr'
     exact he _ bs _ _ ⟨p,rfl,by rw[jd (je hp hD2')];exact hp⟩ q
    ·refine k D2 _ (k2.free hD2') ?_ (k2.new hD2')
     rw[jb,bV,Ip,Ip]
     exact Ob (λz=>some (HO.lst z)) (We λq _=>Ob V.bl (hb _))
   refine⟨λσ' H'=>b=false/\σ'=[some (.str (qw b)),some (.ref t),some (.int (g:Int)),some (.int (m:Int)),some (.ref D)]/\H'=H2,?_,?_⟩
   ·simp! [hD2]
    refine ite2 (λe=>?_) (λe=>?_)
    ·have hb:b=true:=by cases b with|true=>rfl|false=>exact absurd e (by decide +kernel)
     refine fin (λq=>q.any id) _ (λv bs H' Q' ⟨p,e1,e2⟩ q=>?_) λq=>by rw[hb];rfl
     subst e1
     simp!
     exact⟨bs,e2,q⟩
    ·cases b with
     |true=>exact absurd rfl e
     |false=>rfl
   rintro _ H' ⟨hb,rfl,e⟩
   rw[e]
   simp! [hD2]
   refine fin (λq=>q.all id) _ (λv bs H' Q' ⟨p,e1,e2⟩ q=>?_) λq=>by rw[hb];rfl
   subst e1
   simp!
   exact⟨bs,e2,q⟩
end
def Bdm(m n:Nat):Prop:=n<=98/\∀j,j<=n+1->m^j<=1000000
def TTb(H:Hp)(m:Nat)(F:List (List Str))(S:List Sm)(us:List V):Prop:=us.length=S.length/\∀i,i<S.length->∃p,us[i]?=some (.ref p)/\H p=some (.lst (bV (tab m (F.getD i []) (sAt S i))))
structure RTi(P:Program)(w:World)(H0 H:Hp)(c o nm tr x C dx pk:Addr)(z:Str)(n:Nat)(F:List (List Str))(S:List Sm)(r:RS)(l zs:List Str):Prop where
 ch:CH P w H0 H x C dx pk z.length n
 hc:H c=some (.tup (rowV r))
 ho:FzT H o (l.map V.str)
 hn:∃ys,H nm=some (.lst ys)/\NT H ys F
 ht:∃us,H tr=some (.lst us)/\TTb H z.length F S us
theorem CH.pkE{P:Program}{w:World}{H0 H:Hp}{x C dx pk:Addr}{m n:Nat}(c:CH P w H0 H x C dx pk m n):∃φ,H pk=some (.ext φ):=let⟨_,dp,_⟩:=c.dp;dp.ext
theorem RTi.keep{P:Program}{w:World}{H0 H H':Hp}{c o nm tr x C dx pk:Addr}{z:Str}{n n':Nat}{F:List (List Str)}{S:List Sm}{r:RS}{l zs:List Str}(I:RTi P w H0 H c o nm tr x C dx pk z n F S r l zs)(k:Kp [pk] H H')(ch:CH P w H0 H' x C dx pk z.length n'):RTi P w H0 H' c o nm tr x C dx pk z n' F S r l zs:=by
 obtain⟨φ,e⟩:=I.ch.pkE
 obtain⟨ys,h1,h2⟩:=I.hn
 obtain⟨us,h3,h4⟩:=I.ht
 have hS:∀b∈[pk],∃o,H b=some o/\∀ob u,o≠.frz ob u:=λb hb=>by rw[Ah.mp hb];exact⟨_,e,λ_ _ z=>by cases z⟩
 have nl:∀{b:Addr}{xs:List V},H b=some (.lst xs)->b∉[pk]:=λe' z=>by rw[Ah.mp z,e]at e';cases e'
 refine⟨ch,k.tup _ _ I.hc,I.ho.stay k hS,⟨ys,k.old _ _ h1 (nl h1),h2.kp k hS⟩,⟨us,k.old _ _ h3 (nl h3),h4.1,λi hi=>?_⟩⟩
 obtain⟨p,e1,e2⟩:=h4.2 i hi
 exact⟨p,e1,k.old _ _ e2 (nl e2)⟩
theorem RTi.keep0{P:Program}{w:World}{H0 H H':Hp}{c o nm tr x C dx pk:Addr}{z:Str}{n:Nat}{F:List (List Str)}{S:List Sm}{r:RS}{l zs:List Str}(I:RTi P w H0 H c o nm tr x C dx pk z n F S r l zs)(k:Kp [] H H'):RTi P w H0 H' c o nm tr x C dx pk z n F S r l zs:=I.keep (k.mono (by simp)) (I.ch.keep0 k)
def spRT(P:Program)(w:World)(C:Addr):Sp:=λvs H Q _=>∃(c o nm tr x dx pk:Addr)(z:Str)(n:Nat)(H0:Hp)(F:List (List Str))(S:List Sm)(r:RS)(l zs:List Str),vs=[.ref c,.ref o,.ref nm,.ref tr,.str z,.ref x]/\RTi P w H0 H c o nm tr x C dx pk z n F S r l zs /\
 r.ok zs S.length/\S.length<=F.length/\Cn l (fm F r)/\(∀i,i<S.length->Dep (sAt S i) (F.getD i [])/\(∃raw,Cn (F.getD i []) raw)/\Bdm z.length (F.getD i []).length/\OkS (F.getD i []))/\OkS zs/\OkS l/\Bdm z.length l.length/\z.length<=1000000/\n+2<1000000/\(∃o,H0 pk=some o) /\
 ∀p H',H p=none->CH P w H0 H' x C dx pk z.length (n+2)->H' p=some (.lst (bV (tab z.length l (sm z.cps.toList S r))))->Kp [pk] H H'->Q (.ref p) H'
structure TRT(K:PySem.W.Frag)(mg:Str->Option Value)(C fa fb fw fl:Addr):Prop where
 n_len:mg "len"=none
 n_zip:mg "zip"=none
 cls:Cls K C
 rc:CK K C
 d_all_of:Meth K C "all_of" fl
 m21z:mg "ahead_truths"=some (.ref fa)
 m22z:mg "bound_truths"=some (.ref fb)
 m8z:mg "widened"=some (.ref fw)
theorem ixL{H:Hp}{q:Addr}{fs:List V}{j:Nat}{v:V}{Q:VK}(e:H q=some (.lst fs))(a:fs[j]?=some v)(k:Q v H):rIxU (.ref q) (.int (j:Int)) H Q:=⟨fs,by rw[e];rfl,v,jcg (by omega) (by simpa using a),k⟩
theorem jp4{m:Nat}{l:List Str}{y:Str}{f:Sm}(b:Bool)(hf:Dep f (l++[y]))(hy:y∉l):(List.range (m^l.length)).map (λq=>bd b (((tab m (l++[y]) f).drop (q*m)).take m))=tab m l λρ=>bd b ((List.range m).map λp=>f (up ρ y p)):=by
 refine List.ext_getElem (by rw[jey];simp) λi h1 h2=>?_
 have hi:i<(allC m l.length).length:=by rw[jc4];simpa using h1
 simp only[List.getElem_map,List.getElem_range,tab]
 have:=jpc (m:=m) hf hy (Am hi)
 rw[show List.map (λc=>f (asg (l++[y]) c)) (allC m (l++[y]).length)=tab m (l++[y]) f from rfl,this]
theorem jll(t:List Nat)(S:List Sm)(b:Bool)(y:Str)(i:Nat):sm t S (.qn b y i)=λρ=>bd b ((List.range t.length).map λp=>sAt S i (up ρ y p)):=by cases b <;> rfl
theorem jl3(l:List Bool):(bV l).length=l.length:=Ad ..
theorem hdX:∀t u:Fin 8,hdw t=hdw u->t=u:=by decide +kernel
theorem jme{r:RS}(e:hd r=Str.ofString "yes"):r=.yes:=by
 have q:=hdX _ 0 e
 cases r with
 |yes=>rfl
 |bin b=>cases b <;> cases q
 |qn b=>cases b <;> cases q
 |_=>cases q
theorem jpq{r:RS}(e:hd r=Str.ofString "not"):∃i,r=.no i:=by
 have q:=hdX _ 3 e
 cases r with
 |no i=>exact⟨i,rfl⟩
 |bin b=>cases b <;> cases q
 |qn b=>cases b <;> cases q
 |_=>cases q
theorem jpp{r:RS}(e0:hd r≠Str.ofString "yes")(e1:hd r≠Str.ofString "is")(e2:hd r≠Str.ofString "ahead")(e3:hd r≠Str.ofString "not")(e4:inV (.str (hd r)) BN≠true):∃b i j,r=.bin b i j:=by
 cases r with
 |bin b i j=>exact⟨b,i,j,rfl⟩
 |yes=>exact absurd rfl e0
 |is=>exact absurd rfl e1
 |ahead=>exact absurd rfl e2
 |no=>exact absurd rfl e3
 |qn b x i=>exact absurd (joj b x i) e4
section
variable{P:Program}{w:World}{K:PySem.W.Frag}{mg:Str->Option Value}{base:Heap}
abbrev ya:Stmt:=top 8
theorem zo:FnScope ["row","own","names","truths","text","choices","word","inner","left","right"] ["row","own","names","truths","text","choices"] (jh ya):=⟨rfl,rfl,rfl,by decide +kernel,rfl,by decide +kernel,by decide +kernel⟩
theorem ok_row_truths{f C fa fb fw fl:Addr}{fd fda fdb fdw fdl:FuncData}(F0:Fun K "row_truths" "row_truths" ya f fd)(T:TRT K mg C fa fb fw fl)(F21z:Fun K "ahead_truths" "ahead_truths" yi fa fda)(b21z:Binds K fda ["one","other","chosen"] [])(G21z:FnOk P w K mg base CX0 1 fa fda ["one","other","chosen"] spAh)
  (F22z:Fun K "bound_truths" "bound_truths" ko fb fdb) (b22z:Binds K fdb ["word","inner","groups","many"] []) (G22z:FnOk P w K mg base CX0 1 fb fdb ["word","inner","groups","many"] spBd) (F8z:Fun K "widened" "widened" zj fw fdw) (b8z:Binds K fdw ["truths","names","more","choices"] []) (G8z:FnOk P w K mg base CX0 4 fw fdw ["truths","names","more","choices"] (spWi P w C))
  (b13z:Binds K fdl ["self","names"] []) (G13z:FnOk P w K mg base CX0 2 fl fdl ["self","names"] (jlp C)):FnOk P w K mg base CX0 5 f fd ["row","own","names","truths","text","choices"] (spRT P w C):=by
 refine F0.ok zo (λvs H Q E h=>?_) (λcdv A outer s H vs Q E hr h=>?_)
 ·obtain⟨c,o,nm,tr,x,dx,pk,z,n,H0,F,S,r,l,zs,rfl,_⟩:=h
  rfl
 ·obtain⟨c,o,nm,tr,x,dx,pk,z,n,H0,F,S,r,l,zs,rfl,I,ok,hSF,cn,hS,okz,okl,bl,hz,hn,h0,k⟩:=h
  have hu:=hr.units
  have hsz:sizeLine=16777216:=Aq
  have hzl:z.cps.toList.length=z.length:=by simp[Str.length]
  obtain⟨σ0,hσ⟩:∃σ0:L2.St,σ0=[some (.ref c),some (.ref o),some (.ref nm),some (.ref tr),some (.str z),some (.ref x),some (.str (hd r)),none,none,none]:=⟨_,rfl⟩
  refine exQ (jg (jl (i:=6) zo.nd rfl (by first|exact Or.inl rfl|exact Or.inr rfl) (jk ix_U (qpv 0) jf (λ_ _=>rfl)))
  (jz (j0 (jn (j3 hu) (qpv 6) jm (jr _)) (ji (jp (j5 (ja ja2 jc)))) ju)
  (jz (j0 (jn (j3 hu) (qpv 6) jm (jr _)) (ji (jp (yc rfl (jch (sc:=jh ya) (N:=["row","own","names","truths","text","choices","word","inner","left","right"]) (Nc:=["sign","row"]) (js:=[none,some 0]) (by decide +kernel)) (kf (K:=K) (qpv 4) rfl) (λ_ _ _ _=>(jt (i:=0) (show List.Nodup [("sign":Str),("row":Str)]from by decide +kernel) rfl (by first|exact Or.inl rfl|exact Or.inr rfl))) (λ_ _ _ _=>(y4 (j3 hu) (qpv 0) (jk ix_U (qpv 1) jf (λ_ _=>rfl)) (jr _)))))) ju)
  (jz (j0 (jn (j3 hu) (qpv 6) jm (jr _)) (ji (jp (jj G21z (hr.mono (by decide)) rfl T.m21z F21z.kp b21z .nil jo (ja (jba W0 W1 (jav hu) (qpv 1) (ja (jk ix_U (qpv 0) jf (λ_ _=>rfl)) jc)) (ja (jba W0 W1 (jav hu) (qpv 1) (ja (jk ix_U (qpv 0) jf (λ_ _=>rfl)) jc)) (ja (z5 (qpv 5) T.cls T.d_all_of G13z (hr.mono (by decide)) b13z .nil jo (ja (jv yw (by rfl) T.n_len kc (ja (qpv 1) jc)) jc)) jc)))))) ju)
  (jz (j0 (jn (j3 hu) (qpv 6) jm (jr _)) (ji (jp (yc rfl (jch (sc:=jh ya) (N:=["row","own","names","truths","text","choices","word","inner","left","right"]) (Nc:=["truth"]) (js:=[none]) (by decide +kernel)) (kf (K:=K) (jk ix_U (qpv 3) (jk ix_U (qpv 0) jf (λ_ _=>rfl)) (λ_ _=>rfl)) rfl) (λ_ _ _ _=>(jt (i:=0) (show List.Nodup [("truth":Str)]from by decide +kernel) rfl (by first|exact Or.inl rfl|exact Or.inr rfl))) (λ_ _ _ _=>(jb7 (qpv 0)))))) ju)
  (jz (j0 (jn (ja1 (K:=K) rfl) (qpv 6) (j9 (ja jm (ja jm jc))) (by with_unfolding_all rfl)) (jg (jl (i:=7) zo.nd rfl (by first|exact Or.inl rfl|exact Or.inr rfl) (jj G8z (hr.mono (by decide)) rfl T.m8z F8z.kp b8z .nil jo (ja (jk ix_U (qpv 3) (jk ix_U (qpv 0) jf (λ_ _=>rfl)) (λ_ _=>rfl)) (ja (jk ix_U (qpv 2) (jk ix_U (qpv 0) jf (λ_ _=>rfl)) (λ_ _=>rfl)) (ja (jq op_addF (qpv 1) (jbx (ja (jk ix_U (qpv 0) jf (λ_ _=>rfl)) jc))) (ja (qpv 5) jc))))))
  (ji (jp (jj G22z (hr.mono (by decide)) rfl T.m22z F22z.kp b22z .nil jo (ja (qpv 6) (ja (qpv 7) (ja (jv j6 (by rfl) T.n_len kc (ja (z5 (qpv 5) T.cls T.d_all_of G13z (hr.mono (by decide)) b13z .nil jo (ja (jv yw (by rfl) T.n_len kc (ja (qpv 1) jc)) jc)) jc)) (ja (z4 (K:=K) rfl (qpv 5)) jc)))))))) ju)
  (jg (jl (i:=8) zo.nd rfl (by first|exact Or.inl rfl|exact Or.inr rfl) (jj G8z (hr.mono (by decide)) rfl T.m8z F8z.kp b8z .nil jo (ja (jk ix_U (qpv 3) (jk ix_U (qpv 0) jf (λ_ _=>rfl)) (λ_ _=>rfl)) (ja (jk ix_U (qpv 2) (jk ix_U (qpv 0) jf (λ_ _=>rfl)) (λ_ _=>rfl)) (ja (qpv 1) (ja (qpv 5) jc))))))
  (jg (jl (i:=9) zo.nd rfl (by first|exact Or.inl rfl|exact Or.inr rfl) (jj G8z (hr.mono (by decide)) rfl T.m8z F8z.kp b8z .nil jo (ja (jk ix_U (qpv 3) (jk ix_U (qpv 0) jf (λ_ _=>rfl)) (λ_ _=>rfl)) (ja (jk ix_U (qpv 2) (jk ix_U (qpv 0) jf (λ_ _=>rfl)) (λ_ _=>rfl)) (ja (qpv 1) (ja (qpv 5) jc))))))
  (jz (j0 (jn (j3 hu) (qpv 6) jm (jr _)) (ji (jp (yc rfl (jch (sc:=jh ya) (N:=["row","own","names","truths","text","choices","word","inner","left","right"]) (Nc:=["one","other"]) (js:=[none,none]) (by decide +kernel)) (jby rfl T.n_zip (ja (qpv 8) (ja (qpv 9) jc))) (λ_ _ _ _=>(ja6 (n:=2) rfl (zi (jt (i:=0) (show List.Nodup [("one":Str),("other":Str)]from by decide +kernel) rfl (by first|exact Or.inl rfl|exact Or.inr rfl)) (zi (jt (i:=1) (show List.Nodup [("one":Str),("other":Str)]from by decide +kernel) rfl (by first|exact Or.inl rfl|exact Or.inr rfl)) jaw)) (K:=K) rfl)) (λ_ _ _ _=>(jau (qpv 0) (z6 (qpv 1))))))) ju)
  (ji (jp (yc rfl (jch (sc:=jh ya) (N:=["row","own","names","truths","text","choices","word","inner","left","right"]) (Nc:=["one","other"]) (js:=[none,none]) (by decide +kernel)) (jby rfl T.n_zip (ja (qpv 8) (ja (qpv 9) jc))) (λ_ _ _ _=>(ja6 (n:=2) rfl (zi (jt (i:=0) (show List.Nodup [("one":Str),("other":Str)]from by decide +kernel) rfl (by first|exact Or.inl rfl|exact Or.inr rfl)) (zi (jt (i:=1) (show List.Nodup [("one":Str),("other":Str)]from by decide +kernel) rfl (by first|exact Or.inl rfl|exact Or.inr rfl)) jaw)) (K:=K) rfl)) (λ_ _ _ _=>(jbu (qpv 0) (z6 (qpv 1)))))))))))))))) ?_
  simp! [I.hc]
  refine⟨_,jcq r,?_⟩
  rw[<-hσ]
  refine⟨λσ' H'=>σ'=σ0/\H'=H/\hd r≠Str.ofString "yes",?_,?_⟩
  ·rw[hσ]
   simp!
   refine ite2 (λe=>?_) (λe=>e)
   have e0:=jme e
   subst e0
   refine⟨by omega,λp hp=>?_⟩
   have k1:Kp [] H (upd H p (.lst [.bl true])):=(Kp.refl [] H).new hp
   refine k p _ hp ((I.ch.keep0 k1).le (by omega)) ?_ (k1.mono (by simp))
   rw[jb,<-hzl,jpe cn];rfl
  rintro σ' H' ⟨e1,e2,n0⟩
  rw[e1,e2]
  refine⟨λσ' H'=>σ'=σ0/\H'=H/\hd r≠Str.ofString "is",?_,?_⟩
  ·rw[hσ]
   simp!
   refine ite2 (λe=>?_) (λe=>e)
   obtain⟨y,a,rfl⟩:=jhr e
   intro D hD
   refine jni (λcp=>.bl (decide ((⟨#[cp]⟩:Str)=a))) (by omega) (λcp _ l' Q' q=>?_) λv=>?_
   ·have hc2:upd H D (.lst l') c=some (.tup (rowV (.is y a))):=by rw[jd (je I.hc hD)];exact I.hc
    simp! [hc2]
    exact⟨_,jcg (by decide) rfl,q⟩
   ·have k1:Kp [] H (upd H D (.lst (z.cps.toList.map λcp=>.bl (decide ((⟨#[cp]⟩:Str)=a))))):=(Kp.refl [] H).new hD
    refine k D _ hD ((I.ch.keep0 k1).le (by omega)) ?_ (k1.mono (by simp))
    rw[jb,<-hzl,jp5 cn,bV,Ip];rfl
  rintro σ' H' ⟨e1,e2,n1⟩
  rw[e1,e2]
  refine⟨λσ' H'=>σ'=σ0/\H'=H/\hd r≠Str.ofString "ahead",?_,?_⟩
  ·rw[hσ]
   simp! [I.hc]
   refine ite2 (λe=>?_) (λe=>e)
   obtain⟨y,a,rfl⟩:=jdr e
   have my:y∈l:=(cn.me y).mpr (by simp[fm])
   have ma:a∈l:=(cn.me a).mpr (by simp[fm])
   refine⟨⟨o,_,rfl,I.ho⟩,_,jcg (by decide) rfl,jd7 I.ho okl my ⟨⟨o,_,rfl,I.ho⟩,_,by rw[I.hc];rfl,_,jcg (by decide) rfl,jd7 I.ho okl ma ⟨dx,_,I.ch.hx,rfl,l.map V.str,.inr I.ho.sq,?_⟩⟩⟩
   rw[Ad]
   refine⟨x,dx,pk,z.length,l.length,rfl,I.ch.hx,λj hj=>bl.2 j (by omega),hz,by have:=bl.1;omega,λq us H1 hq hq1 cl k1=>?_⟩
   refine⟨q,us,allC z.length l.length,l.idxOf y,l.idxOf a,l.length,rfl,hq1,cl,λc hc=>(jc9 hc).1,Oq my,Oq ma,by rw[jc4];exact bl.2 _ (by omega),λp H2 hp hp2 k2=>?_⟩
   exact k p H2 (k1.free hp) (((I.ch.keep0 k1).keep0 k2).le (by omega)) hp2 ((k1.trans k2).mono (by simp))
  rintro σ' H' ⟨e1,e2,n2⟩
  rw[e1,e2]
  refine⟨λσ' H'=>σ'=σ0/\H'=H/\hd r≠Str.ofString "not",?_,?_⟩
  ·rw[hσ]
   simp! [I.hc]
   refine ite2 (λe=>?_) (λe=>e)
   obtain⟨i,rfl⟩:=jpq e
   obtain⟨us,htr,tt⟩:=I.ht
   obtain⟨p,e1,e2⟩:=tt.2 i ok
   have bi:=(hS i ok).2.2.1
   refine⟨_,jcg (by decide) rfl,ixL htr e1 ?_⟩
   simp! [e2]
   intro D hD
   refine jed (λv=>match v with|.bl q=>.bl (!q)|_=>.non) e2 hD (by rw[jl3,jey];have:=bi.2 (F.getD i []).length (by omega);omega) (λu hu l' Q' q=>?_) λv=>?_
   ·obtain⟨bb,hb,rfl⟩:=Ay.mp hu
    simp!
    exact q
   ·have k1:Kp [] H (upd H D (.lst ((bV (tab z.length (F.getD i []) (sAt S i))).map λv=>match v with|.bl q=>.bl (!q)|_=>.non))):=(Kp.refl [] H).new hD
    refine k D _ hD ((I.ch.keep0 k1).le (by omega)) ?_ (k1.mono (by simp))
    obtain⟨el,et⟩:=jpd (t:=z.cps.toList) (S:=S) cn (hS i ok).2.1
    rw[hzl]at et
    rw[jb,et,bV,bV,Ip,Ip];rfl
  rintro σ' H' ⟨e1,e2,n3⟩
  rw[e1,e2]
  refine⟨λσ' H'=>σ'=σ0/\Kp [] H H'/\inV (.str (hd r)) BN≠true,?_,?_⟩
  ·rw[hσ]
   simp!
   refine⟨by omega,λp hp=>rInU.tupS (xs:=BN) (SqT.of jb) rfl (by decide) ⟨_,rfl,?_⟩⟩
   rw[show(if false=true then !inV (.str (hd r)) BN else inV (.str (hd r)) BN)=inV (.str (hd r)) BN from rfl]
   have k1:Kp [] H (upd H p (.tup [V.str (Str.ofString "some"),V.str (Str.ofString "each")])):=(Kp.refl [] H).new hp
   generalize upd H p (.tup [V.str (Str.ofString "some"),V.str (Str.ofString "each")])=H1 at k1⊢
   refine ite2 (λe=>?_) (λe=>⟨k1,e⟩)
   obtain⟨b,y,i,rfl⟩:=jog e
   have I1:=I.keep0 k1
   have hi:i<S.length:=ok.2
   obtain⟨us,htr,tt⟩:=I1.ht
   obtain⟨pt,e1,e2⟩:=tt.2 i hi
   obtain⟨ys,hnm,nt⟩:=I1.hn
   obtain⟨q,hq1,hq2⟩:=nt.get (i:=i) (by omega)
   have bi:=(hS i hi).2.2.1
   have yl:y∉l:=λh=>by have:=(cn.me y).mp h;simp[fm]at this
   have sub:∀v∈F.getD i [],v∈l++[y]:=λv hv=>by
    by_cases ev:v=y
    ·rw[ev];simp
    ·exact Uc _ ((cn.me v).mpr (Uz.mpr ⟨hv,by simp[ev]⟩))
   refine⟨_,by rw[I1.hc];rfl,_,jcg (by decide) rfl,ixL htr e1 ⟨_,by rw[I1.hc];rfl,_,jcg (by decide) rfl,ixL hnm hq1 ⟨_,by rw[I1.hc];rfl,_,jcg (by decide) rfl,by omega,λp1 H2 hp1 f1 k2=>?_⟩⟩⟩
   have I2:=I1.keep0 k2
   refine⟨o,p1,l.map V.str,[.str y],rfl,rfl,I2.ho,f1,by have:=bl.1;simp;omega,λp2 H3 k3 f3=>?_⟩
   have I3:=I2.keep0 k3
   have f3':FzT H3 p2 ((l++[y]).map V.str):=by simpa using f3
   have k13:=k2.trans k3
   refine⟨x,dx,pk,pt,q,p2,z.length,n,H0,F.getD i [],l++[y],sAt S i,rfl,I3.ch,k13.old _ _ e2 Ae,hq2.kp0 k13,f3',sub,λv hv=>?_,(hS i hi).1,by have:=bi.1;omega,λj hj=>?_,hz,by have:=bl.1;simp;omega,by omega,h0,λp4 H4 ch4 hp4 k4=>?_⟩
   ·rcases Is.mp hv with h|h
    ·exact okl v h
    ·rw[Ah.mp h];exact okz y ok.1
   ·rw[Aw]at hj
    by_cases hj2:j<=l.length+1
    ·exact bl.2 j hj2
    ·rw[List.length_singleton]at hj
     exact bi.2 j (by omega)
   refine⟨dx,_,ch4.hx,rfl,l.map V.str,.inr (I3.keep k4 ch4).ho.sq,?_⟩
   rw[Ad]
   refine⟨x,dx,pk,z.length,l.length,rfl,ch4.hx,λj hj=>bl.2 j (by omega),hz,by have:=bl.1;omega,λq5 us5 H5 hq5 hq5' cl5 k5=>?_⟩
   simp! [hq5']
   have ch5:=ch4.keep0 k5
   have k15:Kp [pk] H H5:=(((k1.trans k13).mono (by simp)).trans k4).trans (k5.mono (by simp))
   have hp5:=k5.old _ _ hp4 Ae
   have ul:us5.length=z.length^l.length:=(Au cl5).trans (jc4 _ _)
   have b0:=bl.2 l.length (by omega)
   have b1:=bl.2 (l.length+1) (by omega)
   rw[Nat.pow_succ]at b1
   refine fld0 rfl ch5.hx T.rc.cls T.rc.many rfl ⟨p4,b,tab z.length (l++[y]) (sAt S i),us5.length,z.length,by rw[show hd (.qn b y i)=qw b by cases b <;> rfl],hp5,?_,by omega,hz,by rw[ul];exact b1,λp6 H6 hp6 e6 k6=>?_⟩
   ·rw[jey,Aw,ul,<-Nat.pow_succ];rfl
   ·refine k p6 H6 (k15.free hp6) ((ch5.keep0 k6).le (by omega)) ?_ (k15.trans (k6.mono (by simp)))
    rw[e6,ul,jp4 b ((hS i hi).1.mono sub) yl,jll,hzl]
  rintro σ' H1 ⟨e1,k1,n4⟩
  rw[e1,hσ]
  obtain⟨b,i,j,rfl⟩:=jpp n0 n1 n2 n3 n4
  have I1:=I.keep0 k1
  simp! [I1.hc]
  obtain⟨us,htr,tt⟩:=I1.ht
  obtain⟨ys,hnm,nt⟩:=I1.hn
  obtain⟨p1,e1,e2⟩:=tt.2 i ok.1
  obtain⟨q1,hq1,hq2⟩:=nt.get (i:=i) (by have:=ok.1;omega)
  have bi:=(hS i ok.1).2.2.1
  have bj:=(hS j ok.2).2.2.1
  have bnd:∀{k:Nat},Bdm z.length (F.getD k []).length->∀u,u<=max l.length (F.getD k []).length->z.length^u<=1000000:=λhb u hu'=>by
   by_cases h:u<=l.length+1
   ·exact bl.2 u h
   ·exact hb.2 u (by omega)
  refine⟨_,jcg (by decide) rfl,ixL htr e1 ⟨_,by rw[I1.hc];rfl,_,jcg (by decide) rfl,ixL hnm hq1 ?_⟩⟩
  refine⟨x,dx,pk,p1,q1,o,z.length,n,H0,F.getD i [],l,sAt S i,rfl,I1.ch,e2,hq2,I1.ho,λv hv=>(cn.me v).mpr (Uc _ hv),okl,(hS i ok.1).1,by have:=bi.1;omega,bnd bi,hz,by have:=bl.1;omega,by omega,h0,λp2 H2 ch2 hp2 k2=>?_⟩
  have I2:=I1.keep k2 ch2
  obtain⟨us',htr',tt'⟩:=I2.ht
  obtain⟨ys',hnm',nt'⟩:=I2.hn
  obtain⟨p3,e3,e4⟩:=tt'.2 j ok.2
  obtain⟨q3,hq3,hq4⟩:=nt'.get (i:=j) (by have:=ok.2;omega)
  refine⟨_,by rw[I2.hc];rfl,_,jcg (by decide) rfl,ixL htr' e3 ⟨_,by rw[I2.hc];rfl,_,jcg (by decide) rfl,ixL hnm' hq3 ?_⟩⟩
  refine⟨x,dx,pk,p3,q3,o,z.length,n+1,H0,F.getD j [],l,sAt S j,rfl,ch2,e4,hq4,I2.ho,λv hv=>(cn.me v).mpr (A2 _ hv),okl,(hS j ok.2).1,by have:=bj.1;omega,bnd bj,hz,by have:=bl.1;omega,by omega,h0,λp4 H4 ch4 hp4 k4=>?_⟩
  have hp24:H4 p2=some (.lst (bV (tab z.length l (sAt S i)))):=k4.old _ _ hp2 λz'=>by
   obtain⟨φ,e⟩:=ch2.pkE
   rw[Ah.mp z',e]at hp2;cases hp2
  have k14:Kp [pk] H H4:=((k1.mono (by simp)).trans k2).trans k4
  have tl:∀f:Sm,(bV (tab z.length l f)).length=z.length^l.length:=λf=>by rw[jl3,jey]
  have hl6:=bl.2 l.length (by omega)
  have fin:∀(op:Bool->Bool->Bool)(te:TE),(∀(u v:Bool)(H':Hp)(Q':VK),Q' (.bl (op u v)) H'->te [some (.bl u),some (.bl v)] H' Q')->(∀ρ,sm z.cps.toList S (.bin b i j) ρ=op (sAt S i ρ) (sAt S j ρ)) ->
    ∀D,H4 D=none->jcn (ItZL p2 p4) (gTup K 2 (jhq (jco 0) (jhq (jco 1) gNil))) (jc3 D te) {nx:=λ_ H'=>Q (.ref D) H',rt:=λ_ _=>False} [none,none] (upd H4 D (.lst [])):=by
   intro op te he hop D hD
   refine jos (λu v=>match u,v with|.bl u,.bl v=>.bl (op u v)|_,_=>.non) hp24 hp4 (by rw[tl,tl]) hD (by rw[tl];omega) (λi' u v hu' hv' H' l' Q' hl' kD q=>?_) (λv v' H' hD' kD=>?_) (λT σ H' x' y' Q' hT ⟨v,v',e⟩ q=>by subst e;exact⟨T,[x',y'],rfl,SqT.of hT,rfl,⟨_,_,rfl,⟨_,_,rfl,rfl,q⟩⟩⟩)
   ·obtain⟨u1,_,rfl⟩:=Ay.mp (A6 hu')
    obtain⟨v1,_,rfl⟩:=Ay.mp (A6 hv')
    exact he u1 v1 H' _ (q H' hl' kD)
   ·have kN:Kp [] H4 H':=jda ((Kp.refl [] H4).new hD) kD λb' hb'=>by rw[Ah.mp hb'];exact hD
    refine k D H' (k14.free hD) ((ch4.keep0 kN).le (by omega)) ?_ (k14.trans (kN.mono (by simp)))
    rw[hD',show sm z.cps.toList S (.bin b i j)=λρ=>op (sAt S i ρ) (sAt S j ρ)from funext hop,<-jpf]
    refine Ob (λw=>some (HO.lst w)) ?_
    unfold bV
    rw[List.zipWith_map,List.map_zipWith]
  refine⟨λσ' H'=>b=false/\σ'=[some (.ref c),some (.ref o),some (.ref nm),some (.ref tr),some (.str z),some (.ref x),some (.str (hd (.bin b i j))),none,some (.ref p2),some (.ref p4)]/\H'=H4,?_,?_⟩
  ·simp!
   refine ite2 (λe=>?_) (λe=>?_)
   ·have hb:b=true:=by cases b with|true=>rfl|false=>exact absurd (hdX 5 4 e) (by decide)
    subst hb
    refine⟨p2,p4,⟨rfl,rfl⟩,_,hp24,_,hp4,fin (λu v=>u && v) _ (λu v H' Q' q=>?_) λρ=>rfl⟩
    refine⟨_,rfl,u,rfl,ite2 (λhu'=>⟨_,rfl,?_⟩) (λhu'=>?_)⟩
    ·rw[hu']at q;exact q
    ·rw[Ue.mpr hu']at q;exact q
   ·cases b with
    |true=>exact absurd rfl e
    |false=>rfl
  rintro _ H' ⟨hb,rfl,e⟩
  rw[e]
  subst hb
  simp!
  refine⟨p2,p4,⟨rfl,rfl⟩,_,hp24,_,hp4,fin (λu v=>u || v) _ (λu v H' Q' q=>?_) λρ=>rfl⟩
  refine⟨_,rfl,u,rfl,ite2 (λhu'=>?_) (λhu'=>⟨_,rfl,?_⟩)⟩
  ·rw[hu']at q;exact q
  ·rw[Ue.mpr hu']at q;exact q
end
def spHo:Sp:=λvs H Q _=>∃(a pd:Addr)(z:Str)(us:List V)(rs:List RS)(zs:List Str)(kvs:List (L2.Key×V))(ρ:Str->Nat),vs=[.ref a,.str z,.ref pd]/\H a=some (.tup us)/\RowsAt H us rs/\okR zs rs/\zs.length<=26/\1<=rs.length/\rs.length<=100/\OkS zs/\z.length<=1000000/\H pd=some (.dK kvs) /\
 (∀F,CF zs F rs->(∀k,k<rs.length->Bdm z.length (F.getD k []).length)/\∀y∈F.getD (rs.length-1) [],valV kvs (.inr y)=some (.int (ρ y:Nat))/\ρ y<z.length) /\
 ∀H',Kp [] H H'->Q (.bl (sAt (sms z.cps.toList rs) (rs.length-1) ρ)) H'
structure THo(K:PySem.W.Frag)(mg:Str->Option Value)(C fi fr ft fu:Addr):Prop where
 n_len:mg "len"=none
 n_zip:mg "zip"=none
 cls:Cls K C
 rc:CK K C
 mkR:Mk K C fi
 m_Choices:mg "Choices"=some (.ref C)
 d_number_of:Meth K C "number_of" fu
 m24z:mg "names_of_rows"=some (.ref fr)
 m28z:mg "row_truths"=some (.ref ft)
section
variable{P:Program}{w:World}{K:PySem.W.Frag}{mg:Str->Option Value}{base:Heap}
abbrev zq:Stmt:=top 7
theorem jaa:FnScope ["saying","text","places","choices","names","truths","row","own"] ["saying","text","places"] (jh zq):=⟨rfl,rfl,rfl,by decide +kernel,rfl,by decide +kernel,by decide +kernel⟩
theorem ok_holds{f C fi fr ft fu:Addr}{fd fdi fdr fdt fdu:FuncData}(F0:Fun K "holds" "holds" zq f fd)(T:THo K mg C fi fr ft fu)(b29z:Binds K fdi ["self","many"] [])(G29z:FnOk P w K mg base CX0 1 fi fdi ["self","many"] (jm2 P w C))
  (F24z:Fun K "names_of_rows" "names_of_rows" ym fr fdr) (b24z:Binds K fdr ["saying"] []) (G24z:FnOk P w K mg base CX0 3 fr fdr ["saying"] jon)
  (F28z:Fun K "row_truths" "row_truths" ya ft fdt) (b28z:Binds K fdt ["row","own","names","truths","text","choices"] []) (G28z:FnOk P w K mg base CX0 5 ft fdt ["row","own","names","truths","text","choices"] (spRT P w C))
  (b25z:Binds K fdu ["self","choice"] []) (G25z:FnOk P w K mg base CX0 1 fu fdu ["self","choice"] (jlr C)):FnOk P w K mg base CX0 6 f fd ["saying","text","places"] spHo:=by
 refine F0.ok jaa (λvs H Q E h=>?_) (λcdv A outer s H vs Q E hr h=>?_)
 ·obtain⟨a,pd,z,us,rs,zs,kvs,ρ,rfl,_⟩:=h
  rfl
 ·obtain⟨a,pd,z,us,rs,zs,kvs,ρ,rfl,ha,ra,ok,z26,n1,n9,okz,hz,hpd,hF,k⟩:=h
  have hu:=hr.units
  have hu1:(A.deeper (PyProof.Rows.envOfC (Str.ofString "holds") (jh zq) s.heap.objs.size f cdv)).units+1<cLine:=by omega
  have hsz:sizeLine=16777216:=Aq
  have ul:us.length=rs.length:=Au ra
  refine exQ (jg (jl (i:=3) jaa.nd rfl (by first|exact Or.inl rfl|exact Or.inr rfl) (qpe_make T.mkR G29z (hr.mono (by decide)) rfl T.m_Choices b29z .nil jo (ja (jv j6 (by rfl) T.n_len kc (ja (qpv 1) jc)) jc)))
  (jg (jl (i:=4) jaa.nd rfl (by first|exact Or.inl rfl|exact Or.inr rfl) (jj G24z (hr.mono (by decide)) rfl T.m24z F24z.kp b24z .nil jo (ja (qpv 0) jc)))
  (jg (jl (i:=5) jaa.nd rfl (by first|exact Or.inl rfl|exact Or.inr rfl) (j5 jc))
  (jg (yp Iv rfl (qpi_zipM (K:=K) rfl rfl T.n_zip (ja (qpv 0) (ja (qpv 4) jc))) (ja6 (n:=2) rfl (zi (jt (i:=6) jaa.nd rfl (by first|exact Or.inl rfl|exact Or.inr rfl)) (zi (jt (i:=7) jaa.nd rfl (by first|exact Or.inl rfl|exact Or.inr rfl)) jaw)) (K:=K) rfl) (ji (ky (yh A7 A8 ku (qpv 5) (ja (jj G28z (hr.mono (by decide)) rfl T.m28z F28z.kp b28z .nil jo (ja (qpv 6) (ja (qpv 7) (ja (qpv 4) (ja (qpv 5) (ja (qpv 1) (ja (qpv 3) jc))))))) jc) jcl))))
  (ji (jp (jk ix_U (jk ix_U (qpv 5) (jbd jf5 jf) (λ_ _=>rfl)) (z5 (qpv 3) T.cls T.d_number_of G25z (hr.mono (by decide)) b25z .nil jo (ja (yc rfl (jch (sc:=jh zq) (N:=["saying","text","places","choices","names","truths","row","own"]) (Nc:=["name","places"]) (js:=[none,some 2]) (by decide +kernel)) (jb8 (K:=K) (jk ix_U (qpv 4) (jbd jf5 jf) (λ_ _=>rfl)) rfl) (λ_ _ _ _=>(jt (i:=0) (show List.Nodup [("name":Str),("places":Str)]from by decide +kernel) rfl (by first|exact Or.inl rfl|exact Or.inr rfl))) (λ_ _ _ _=>(jak hu1 (qpv 1) (qpv 0) (λ_ _=>rfl)))) jc)) (λ_ _=>rfl)))))))) ?_
  simp!
  refine⟨by omega,λx dx hx hdx ne=>?_⟩
  have k1:Kp [] H (upd (upd H dx (.own x)) x (.ins C dx [])):=((Kp.refl [] H).new hdx).new (by rw[jd ne.symm];exact hx)
  have ex:upd (upd H dx (.own x)) x (.ins C dx []) x=_:=jb
  generalize upd (upd H dx (.own x)) x (.ins C dx [])=H1 at k1 ex⊢
  refine⟨x,dx,z.length,rfl,ex,λH2 pk hx2 dp2 hpk k2=>⟨rfl,?_⟩⟩
  have k12:Kp [] H H2:=jda k1 k2 λb hb=>by rw[Ah.mp hb];exact hx
  refine⟨a,us,rs,zs,rfl,k12.tup _ _ ha,ra.kp k12,ok,z26,n9,λnm ys F H3 k3 hnm nt cf=>⟨by omega,λtr htr=>?_⟩⟩
  have k13:=k12.trans k3
  obtain⟨H4,e4⟩:∃H4,H4=upd H3 tr (.lst []):=⟨_,rfl⟩
  have k34:Kp [] H3 H4:=by rw[e4];exact(Kp.refl [] H3).new htr
  have etr:H4 tr=some (.lst []):=by rw[e4,jb]
  rw[<-e4]
  have k04:=k13.trans k34
  have k24:=k3.trans k34
  have hx4:=k24.old _ _ hx2 Ae
  have dp4:=dp2.keep k24 (by simp) (by simp)
  have ch4:CH P w H4 H4 x C dx pk z.length 0:=⟨hx4,⟨_,dp4,λ_ _ _ e=>by cases e⟩,λa o e=>⟨o,e⟩⟩
  have nt4:=nt.kp0 k34
  have hnm4:=k34.old _ _ hnm Ae
  have ra4:=ra.kp k04
  obtain⟨hB,hρ⟩:=hF F cf
  have fl:=cf.len
  have yl:ys.length=rs.length:=nt.len.trans fl
  have ha4:=k04.tup _ _ ha
  have dep:=λi hi=>jkm (t:=z.cps.toList) (rs:=rs) ok cf i hi
  obtain⟨φ4,epk⟩:=ch4.pkE
  have npt:pk≠tr:=λe=>by rw[e,etr]at epk;cases epk
  have nxt:x≠tr:=λe=>by rw[e,etr]at hx4;cases hx4
  have nxp:x≠pk:=λe=>by rw[e,epk]at hx4;cases hx4
  refine⟨a,nm,⟨rfl,rfl⟩,us,SqT.of ha4,ys,hnm4,?_⟩
  have nnt:nm≠tr:=je hnm htr
  have nnp:nm≠pk:=λe=>by rw[e,epk]at hnm4;cases hnm4
  have hS4:∀b∈[pk,tr],∃o,H4 b=some o/\∀ob u,o≠.frz ob u:=λb hb=>by
   simp only[Ar,Ae,Yh]at hb
   rcases hb with e|e
   ·rw[e];exact⟨_,epk,λ_ _ z=>by cases z⟩
   ·rw[e];exact⟨_,etr,λ_ _ z=>by cases z⟩
  obtain⟨W,hW⟩:∃W:Nat->L2.St->Hp->Prop,W=λi σ H'=>∃(v6 v7:Option V)(ts:List V),σ=[some (.ref a),some (.str z),some (.ref pd),some (.ref x),some (.ref nm),some (.ref tr),v6,v7]/\CH P w H4 H' x C dx pk z.length (2*i)/\H' tr=some (.lst ts)/\TTb H' z.length F (sms z.cps.toList (rs.take i)) ts/\(∀(j:Nat)(p:Addr),ts[j]?=some (.ref p)->H4 p=none)/\Kp [pk,tr] H4 H':=⟨_,rfl⟩
  refine jo2 (xs:=us) (ys:=ys) W ?_ (by omega) ?_ ?_ ?_
  ·rw[hW]
   exact⟨none,none,[],rfl,ch4,etr,⟨rfl,λj hj=>by simp[sms]at hj⟩,λj p e=>by simp at e,Kp.refl _ _⟩
  ·intro i σ H' _ h
   rw[hW]at h
   obtain⟨v6,v7,ts,rfl,ch,htr',tt,fr,kp⟩:=h
   exact⟨SqT.of (kp.tup _ _ ha4),kp.old _ _ hnm4 (by simp[nnp,nnt])⟩
  ·intro i u v σ H' Tt hu' hv h hT
   rw[hW]at h
   obtain⟨v6,v7,ts,rfl,ch,htr',tt,fr,kp⟩:=h
   obtain⟨r,c,hri,rfl,hc⟩:=ra4.get hu'
   have hi:i<rs.length:=(Ag.mp hri).1
   obtain⟨q,hq1,hq2⟩:=nt4.get (i:=i) (by omega)
   rw[hq1]at hv
   cases hv
   have sl:(sms z.cps.toList (rs.take i)).length=i:=by rw[jdf,A5];omega
   have tl:ts.length=i:=tt.1.trans sl
   refine⟨Tt,[.ref c,.ref q],rfl,SqT.of jb,rfl,⟨_,_,rfl,⟨_,_,rfl,rfl,?_⟩⟩⟩
   have kT:Kp [] H' (upd H' Tt (.tup [.ref c,.ref q])):=(Kp.refl [] H').new hT
   generalize upd H' Tt (.tup [.ref c,.ref q])=H5 at kT⊢
   have htr5:=kT.old _ _ htr' Ae
   simp!
   refine⟨by rw[htr5];rfl,c,q,nm,tr,x,dx,pk,z,2*i,H4,F,sms z.cps.toList (rs.take i),r,F.getD i [],zs,rfl,⟨ch.keep0 kT,kT.tup _ _ (kp.tup _ _ hc),(hq2.stay kp hS4).kp0 kT,⟨ys,kT.old _ _ (kp.old _ _ hnm4 (by simp[nnp,nnt])) (by simp),(nt4.kp kp hS4).kp0 kT⟩,⟨ts,htr5,tt.1,λj hj=>?_⟩⟩,
    by rw[sl];exact ok i r hri,by rw[sl];omega,cf.at_ i r hri,λj hj=>?_,okz,λy hy=>okz y (cf.sub i y hy),hB i hi,hz,by omega,⟨_,epk⟩,λp H6 hp ch6 hp6 k6=>?_⟩
   ·obtain⟨p,e,g⟩:=tt.2 j hj
    exact⟨p,e,kT.old _ _ g Ae⟩
   ·rw[sl]at hj
    exact⟨jjf ok cf i (by omega) j hj,⟨_,cf.at_ j _ (Am (show j<rs.length by omega))⟩,hB j (by omega),λy hy=>okz y (cf.sub j y hy)⟩
   have htr6:=k6.old _ _ htr5 (by simpa using npt.symm)
   have k7:Kp [tr] H6 (upd H6 tr (.lst (ts++[.ref p]))):=(Kp.refl _ H6).set htr6 (.inl (.head _))
   have hp4:H4 p=none:=kp.free (kT.free hp)
   have npr:p≠tr:=λe=>by rw[e,etr]at hp4;cases hp4
   refine⟨ts,by rw[htr6];rfl,by omega,?_⟩
   rw[hW]
   refine⟨_,_,ts++[.ref p],rfl,ch6.keep k7 (λb hb=>?_),jb,⟨?_,λj hj=>?_⟩,λj p' e=>?_,((kp.trans (kT.mono (by simp))).trans (k6.mono (by simp))).trans (k7.mono (by simp))⟩
   ·rw[Ah.mp hb]
    exact⟨⟨_,etr⟩,⟨_,htr6,λ_ _ z=>by cases z⟩,nxt.symm,npt.symm⟩
   ·rw[jcp hri,jdg,Aw,Aw,tl,sl];rfl
   ·rw[jcp hri,jdg]at hj⊢
    rw[Aw,sl]at hj
    by_cases hji:j<i
    ·obtain⟨p',e,g⟩:=tt.2 j (by omega)
     have f4:=fr j p' e
     refine⟨p',by rw[Oj (by omega)];exact e,?_⟩
     rw[jja (by omega),jd (λe'=>by rw[e',etr]at f4;cases f4)]
     exact k6.old _ _ (kT.old _ _ g Ae) λm=>by rw[Ah.mp m,epk]at f4;cases f4
    ·have:j=i:=by simp at hj;omega
     subst this
     refine⟨p,by rw[O1 (by omega),tl];simp,?_⟩
     rw[jd npr,hp6]
     have:=jfh (S:=sms z.cps.toList (rs.take j)) (f:=sm z.cps.toList (sms z.cps.toList (rs.take j)) r)
     rw[sl]at this
     rw[this]
   ·by_cases hj:j<ts.length
    ·rw[Oj hj]at e;exact fr j p' e
    ·rw[O1 (by omega)]at e
     cases hq:j-ts.length with
     |zero=>rw[hq]at e;cases e;exact hp4
     |succ n=>rw[hq]at e;simp at e
  ·intro σ H5 h
   rw[hW]at h
   obtain⟨v6,v7,ts,rfl,ch,htr5,tt,fr,kp⟩:=h
   rw[ul,Oh]at tt
   have sl:(sms z.cps.toList rs).length=rs.length:=jdf _ _
   obtain⟨pt,e1,e2⟩:=tt.2 (rs.length-1) (by omega)
   obtain⟨q,hq1,hq2⟩:=nt4.get (i:=rs.length-1) (by omega)
   have hnm5:=kp.old _ _ hnm4 (by simp[nnp,nnt])
   have hq5:=hq2.stay kp hS4
   have k05:Kp [] H H5:=jda k04 kp λb hb=>by
    simp only[Ar,Ae,Yh]at hb
    rcases hb with e|e
    ·rw[e];exact k1.free hpk
    ·rw[e];exact k13.free htr
   have hpd5:=k05.old _ _ hpd Ae
   have tl:ts.length=rs.length:=tt.1.trans sl
   have bL:=hB (rs.length-1) (by omega)
   simp! [htr5,hnm5]
   refine⟨_,jfj (by rw[tl];exact e1),dx,_,ch.hx,rfl,_,jfj (by rw[yl];exact hq1),q,rfl,⟨_,hq5.sq⟩,λD hD=>jgr (λv=>match v with|.str y=>.int (ρ y:Nat)|_=>.non) hq5 hD (by rw[Ad];have:=bL.1;omega) (λu hu' l' Q' q'=>?_) λv=>?_⟩
   ·obtain⟨y,hy,rfl⟩:=Ay.mp hu'
    exact⟨_,rfl,_,rfl,pd,.int (ρ y:Nat),rfl,.inl ⟨kvs,.inr y,.inl (by rw[jd (je hpd5 hD)];exact hpd5),rfl,(hρ y hy).1.symm⟩,q'⟩
   ·have k6:Kp [] H5 (upd H5 D (.lst (((F.getD (rs.length-1) []).map V.str).map λv=>match v with|.str y=>.int (ρ y:Nat)|_=>.non))):=(Kp.refl [] H5).new hD
    have e6:upd H5 D (.lst (((F.getD (rs.length-1) []).map V.str).map λv=>match v with|.str y=>.int (ρ y:Nat)|_=>.non)) D=some (.lst (iV ((F.getD (rs.length-1) []).map ρ))):=by rw[jb,iV,Ip,Ip];rfl
    generalize upd H5 D (.lst (((F.getD (rs.length-1) []).map V.str).map λv=>match v with|.str y=>.int (ρ y:Nat)|_=>.non))=H6 at k6 e6⊢
    refine⟨x,dx,pk,D,z.length,(F.getD (rs.length-1) []).map ρ,rfl,k6.old _ _ ch.hx (by simp),e6,λp hp=>?_,λj hj=>bL.2 j (by rw[Ad]at hj;omega),hz,?_⟩
    ·obtain⟨y,hy,rfl⟩:=Ay.mp hp
     exact(hρ y hy).2
    ·exact ixL (k6.old _ _ e2 Ae) (by rw[bV,Ax,jm5 ρ (dep (rs.length-1) (by omega)) λy hy=>(hρ y hy).2];rfl) (k H6 (k05.trans k6))
end
def jkp:Sp:=λvs H Q _=>∃(b:Addr)(m:Int)(o:HO),vs=[.ref b,.int m]/\H b=some o/\BoxO o/\1<=m/\m<=1000/\∀d o' H',0<=d->d<m->BoxO o'->H' b=some o'->Kp [b] H H'->Q (.int d) H'
section
variable{P:Program}{w:World}{K:PySem.W.Frag}{mg:Str->Option Value}{base:Heap}
structure TRow(mg:Str->Option Value)(ft:Addr):Prop where
 m0z:mg "_law_take"=some (.ref ft)
abbrev yy:Stmt:=top 19
theorem sc__law_row_at:FnScope ["_law_box_here","_law_k"] ["_law_box_here","_law_k"] (jh yy):=⟨rfl,rfl,rfl,by decide +kernel,rfl,by decide +kernel,by decide +kernel⟩
theorem ok__law_row_at{f ft:Addr}{fd fdt:FuncData}(F:Fun K "_law_row_at" "_law_row_at" yy f fd)(T:TRow mg ft)(F0z:Fun K "_law_take" "_law_take" j7 ft fdt)(b0z:Binds K fdt ["_law_box_here","_law_wide"] [])
  (G0z:FnOk P w K mg base CX0 1 ft fdt ["_law_box_here","_law_wide"] jc7):FnOk P w K mg base CX0 2 f fd ["_law_box_here","_law_k"] jkp:=by
 refine F.ok sc__law_row_at (λvs H Q E h=>?_) (λcdv A outer s H vs Q E hr h=>?_)
 ·obtain⟨b,m,o,rfl,_⟩:=h
  rfl
 ·obtain⟨b,m,o,rfl,hb,ho,m1,m2,k⟩:=h
  refine⟨_,(QSs.h (ji (jp (jk ix_U (j5 (ja (jq jac (qpv 1) jf) (ja (jj G0z (hr.mono (by decide)) rfl T.m0z F0z.kp b0z .nil jo (ja (qpv 0) (ja (qpv 1) jc))) jc))) (jj G0z (hr.mono (by decide)) rfl T.m0z F0z.kp b0z .nil jo (ja (qpv 0) (ja jf jc))) (λ_ _=>rfl))))),?_⟩
  have hsz:sizeLine=16777216:=Aq
  simp!
  refine⟨b,m,o,rfl,hb,ho,by omega,by omega,λd o1 d0 d1 ho1=>?_⟩
  refine⟨by omega,λp hp=>?_⟩
  have nbp:b≠p:=je jb hp
  obtain⟨xs0,rfl⟩:=ho.lst
  obtain⟨xs1,rfl⟩:=id ho1.lst
  refine⟨b,2,_,rfl,by rw[jd nbp,jb],ho1,by omega,by omega,λe o2 e0 e1 ho2=>?_⟩
  have hp2:upd (upd (upd H b (.lst xs1)) p (.lst [V.int (m-1),V.int d])) b o2 p=some (.lst [V.int (m-1),V.int d]):=by rw[jd nbp.symm,jb]
  simp! [hp2]
  have kp:Kp [b] H (upd (upd (upd H b (.lst xs1)) p (.lst [V.int (m-1),V.int d])) b o2):=((((Kp.refl [b] H).set hb (.inl (.head _))).new hp).set (by rw[jd nbp,jb]) (.inl (by simp)))
  have:e=0\/e=1:=by omega
  rcases this with rfl|rfl
  ·exact⟨_,jkv _ _,k _ o2 _ (by omega) (by omega) ho2 jb kp⟩
  ·exact⟨_,jkw _ _ _,k _ o2 _ d0 d1 ho2 jb kp⟩
end
def lowS(z:Str):Prop:=∀c∈sg z,c<=122
theorem lowS.app{x y:Str}(h1:lowS x)(h2:lowS y):lowS (x++y):=λc hc=>by
 rw[jmz]at hc
 rcases Is.mp hc with h|h
 ·exact h1 c h
 ·exact h2 c h
theorem lowS.one{c:Nat}(h:c<=122):lowS ⟨#[c]⟩:=λd hd=>by
 have:d=c:=by simpa[sg]using hd
 rw[this];exact h
theorem lowS.join{l:List Str}(h:∀z∈l,lowS z):lowS (Txt.join (Str.ofString "") l):=λc hc=>by
 rw[joi]at hc
 obtain⟨m,hm,hc⟩:=List.mem_flatten.mp hc
 obtain⟨z,hz,rfl⟩:=Ay.mp hm
 exact h z hz c hc
theorem jiv:∀{xs:List V},(∀x∈xs,∃c:Nat,x=.str ⟨#[c]⟩/\c<=122)->∃ys:List Str,xs=ys.map V.str/\ys.length=xs.length/\∀y∈ys,y.length=1/\lowS y
 |[],_=>⟨[],rfl,rfl,λ_ h=>nomatch h⟩
 |x::xs,h=>by
  obtain⟨c,rfl,hc⟩:=h x (.head _)
  obtain⟨ys,rfl,hl,hy⟩:=jiv λy hy=>h y (.tail _ hy)
  refine⟨⟨#[c]⟩::ys,rfl,by simp,λy hy'=>?_⟩
  rcases Ar.mp hy' with rfl|h
  ·exact⟨rfl,lowS.one hc⟩
  ·exact hy y h
def NmOk(z:Str):Prop:=z.length<=3/\lowS z
def spPN:Sp:=λvs H Q _=>∃(b:Addr)(m:Nat)(o:HO),vs=[.ref b,.int (m:Int)]/\H b=some o/\BoxO o/\1<=m/\m<=26 /\
 ∀(p:Addr)(zs:List Str)(o':HO)(H':Hp),zs.length=m->(∀z∈zs,NmOk z)->H p=none->H' p=some (.lst (zs.map V.str))->BoxO o'->H' b=some o'->Kp [b] H H'->Q (.ref p) H'
theorem jd5(x y:Str):(x++y).length=x.length+y.length:=by simp[Str.length,Str.cps_append]
theorem jfr(l:List Str)(h:∀a∈l,a.length=1):(Txt.join (Str.ofString "") l).length=l.length:=PySem.W.KT.join_ones l h
theorem jgs(ys:List Str)(lo hi:Option Int):cutV (ys.map V.str) lo hi=((ys.drop (HT.sIx ys.length 0 lo)).take (HT.sIx ys.length ys.length hi-HT.sIx ys.length 0 lo)).map V.str:=by
 simp only[cutV,Ad,List.map_take,List.map_drop]
def JN(H:Hp)(b D c:Addr)(m n:Nat)(sp fi:Int)(i ch:Nat)(v4:Option V)(ys zs:List Str):L2.St->Hp->Prop:=λσ H5=>∃(nm:Str)(o':HO),
 σ=[some (.ref b),some (.int (m:Int)),some (.str "abcdefghijklmnopqrstuvwxyz"),some (.int (1+(n:Int))),some (.ref D),some (.int sp),some (.int fi),some (.ref c),some (.int (0+(i:Int))),some (.str ⟨#[ch]⟩),some (.str nm),v4] /\
 (nm.length<=3/\lowS nm)/\BoxO o'/\H5 b=some o'/\H5 c=some (.lst (zs.map V.str))/\H5 D=some (.lst (ys.map V.str))/\Kp [b] H H5
structure TPN(mg:Str->Option Value)(ft:Addr):Prop where
 n_range:mg "range"=none
 m0z:mg "_law_take"=some (.ref ft)
section
variable{P:Program}{w:World}{K:PySem.W.Frag}{mg:Str->Option Value}{base:Heap}
abbrev ke:Stmt:=top 20
theorem jy:FnScope ["_law_box_here","_law_many","_law_letters_here","_law_size","_law_signs","_law_spot","_law_first","_law_found","_law_k","_law_one","_law_name","_law_odd"] ["_law_box_here","_law_many"] (jh ke):=⟨rfl,rfl,rfl,by decide +kernel,rfl,by decide +kernel,by decide +kernel⟩
theorem ok__law_place_names{f ft:Addr}{fd fdt:FuncData}(F:Fun K "_law_place_names" "_law_place_names" ke f fd)(T:TPN mg ft)(F0z:Fun K "_law_take" "_law_take" j7 ft fdt)(b0z:Binds K fdt ["_law_box_here","_law_wide"] [])
  (G0z:FnOk P w K mg base CX0 1 ft fdt ["_law_box_here","_law_wide"] jc7):FnOk P w K mg base CX0 2 f fd ["_law_box_here","_law_many"] spPN:=by
 refine F.ok jy (λvs H Q E h=>?_) (λcdv A outer s H vs Q E hr h=>?_)
 ·obtain⟨b,m,o,rfl,_⟩:=h
  rfl
 ·obtain⟨b,m,o,rfl,hb,ho,m1,m2,k⟩:=h
  have hu:=hr.units
  refine⟨_,(QSs.h (jg (jl (i:=2) jy.nd rfl (by first|exact Or.inl rfl|exact Or.inr rfl) jm)
  (jg (jl (i:=3) jy.nd rfl (by first|exact Or.inl rfl|exact Or.inr rfl) (jq j8 jf (jj G0z (hr.mono (by decide)) rfl T.m0z F0z.kp b0z .nil jo (ja (qpv 0) (ja jf jc)))))
  (jg (jb0 (i:=4) jy.nd rfl (by first|exact Or.inl rfl|exact Or.inr rfl) rfl (jch (sc:=jh ke) (N:=["_law_box_here","_law_many","_law_letters_here","_law_size","_law_signs","_law_spot","_law_first","_law_found","_law_k","_law_one","_law_name","_law_odd"]) (Nc:=["_law_k","_law_letters_here","_law_box_here"]) (js:=[none,some 2,some 0]) (by decide +kernel)) (yu rfl T.n_range (ja (qpv 3) jc)) (λ_ _ _ _=>(jt (i:=0) (show List.Nodup [("_law_k":Str),("_law_letters_here":Str),("_law_box_here":Str)]from by decide +kernel) rfl (by first|exact Or.inl rfl|exact Or.inr rfl))) (λ_ _ _ _=>(jk ix_U (qpv 1) (jj G0z (hr.mono (by decide)) rfl T.m0z F0z.kp b0z .nil jo (ja (qpv 2) (ja jf jc))) (λ_ _=>rfl))))
  (jg (jl (i:=5) jy.nd rfl (by first|exact Or.inl rfl|exact Or.inr rfl) (jj G0z (hr.mono (by decide)) rfl T.m0z F0z.kp b0z .nil jo (ja (qpv 0) (ja (qpv 3) jc))))
  (jg (jl (i:=6) jy.nd rfl (by first|exact Or.inl rfl|exact Or.inr rfl) (jj G0z (hr.mono (by decide)) rfl T.m0z F0z.kp b0z .nil jo (ja (qpv 0) (ja jf jc))))
  (jg (jl (i:=7) jy.nd rfl (by first|exact Or.inl rfl|exact Or.inr rfl) (j5 jc))
  (jg (yp Iv rfl (yu rfl T.n_range (ja (qpv 1) jc)) (jt (i:=8) jy.nd rfl (by first|exact Or.inl rfl|exact Or.inr rfl)) (jg (jl (i:=9) jy.nd rfl (by first|exact Or.inl rfl|exact Or.inr rfl) (jk ix_U (qpv 2) (jq zt (jq j8 (qpv 6) (jq y8 jf (qpv 8))) jf) (λ_ _=>rfl)))
  (jg (jl (i:=10) jy.nd rfl (by first|exact Or.inl rfl|exact Or.inr rfl) (jq j8 (jq j8 (jbh Yn Yo ja9 jm (ja (zu (ja8 (K:=K) rfl) (qpv 4) z7 (zv (qpv 5))) jc) jiq) (qpv 9)) (jbh Yn Yo ja9 jm (ja (zu (ja8 (K:=K) rfl) (qpv 4) (zv (jq j8 (qpv 5) jf)) z7) jc) jiq)))
  (jz (j0 (QW.pt (jbk (jn (j3 hu) (jq zt (qpv 8) jf) jf (jr _)) (jbk (jn jab (qpv 3) jf (jr _)) (jb1 (jn (j3 hu) (jj G0z (hr.mono (by decide)) rfl T.m0z F0z.kp b0z .nil jo (ja (qpv 0) (ja jf jc))) jf (jr _)))))) (ji (jl (i:=10) jy.nd rfl (by first|exact Or.inl rfl|exact Or.inr rfl) (jq j8 (qpv 10) jm))) ju)
  (jz (j0 (jn (ja1 (K:=K) rfl) (qpv 10) (j9 (ja jm (ja jm (ja jm (ja jm (ja jm jc)))))) (by with_unfolding_all rfl)) (ji (jl (i:=10) jy.nd rfl (by first|exact Or.inl rfl|exact Or.inr rfl) (jq j8 jm (qpv 9)))) ju)
  (ji (ky (yh A7 A8 ku (qpv 7) (ja (qpv 10) jc) jcl))))))))
  (jz (j0 (jn (j3 hu) (jj G0z (hr.mono (by decide)) rfl T.m0z F0z.kp b0z .nil jo (ja (qpv 0) (ja jf jc))) jf (jr _)) (jg (jl (i:=11) jy.nd rfl (by first|exact Or.inl rfl|exact Or.inr rfl) (jk ix_U (j5 (ja jm (ja jm (ja jm (ja jm (ja jm (ja jm (ja jm (ja jm jc))))))))) (jj G0z (hr.mono (by decide)) rfl T.m0z F0z.kp b0z .nil jo (ja (qpv 0) (ja jf jc))) (λ_ _=>rfl)))
  (ji (j0 (jn (op_notinU (K:=K) rfl) (qpv 11) (qpv 7) (by with_unfolding_all rfl)) (ji (ja7 (qpv 11) (jbi (qpv 7) (jj G0z (hr.mono (by decide)) rfl T.m0z F0z.kp b0z .nil jo (ja (qpv 0) (ja (qpv 1) jc))) jli))) ju))) ju)
  (ji (jp (qpv 7)))))))))))),?_⟩
  have hsz:sizeLine=16777216:=Aq
  have la:(Str.ofString "abcdefghijklmnopqrstuvwxyz").length=26:=by decide +kernel
  have l26:(Str.ofString "abcdefghijklmnopqrstuvwxyz").cps.toList.length=26:=by simpa[Str.length]using la
  have lq:(Str.ofString "q").length=1:=by decide +kernel
  have hlq:lowS (Str.ofString "q"):=by unfold lowS;decide +kernel
  have hlqq:lowS (Str.ofString "qq"):=by unfold lowS;decide +kernel
  have hab:∀c∈(Str.ofString "abcdefghijklmnopqrstuvwxyz").cps.toList,c<=122:=by decide +kernel
  have lqq:(Str.ofString "qq").length=2:=by decide +kernel
  simp!
  refine⟨b,3,o,rfl,hb,ho,by omega,by omega,λd o1 d0 d1 ho1=>?_⟩
  obtain⟨n,rfl⟩:∃n:Nat,d=(n:Int):=⟨d.toNat,by omega⟩
  have en:(1+(n:Int)).toNat=n+1:=by omega
  obtain⟨xs0,rfl⟩:=ho.lst
  obtain⟨xs1,rfl⟩:=id ho1.lst
  refine⟨_,rfl,by omega,by omega,λD hD=>?_⟩
  rw[en]
  have nbD:b≠D:=je jb hD
  have hD0:H D=none:=by rw[jd nbD.symm]at hD;exact hD
  refine jif (λx=>∃c:Nat,x=.str ⟨#[c]⟩/\c<=122) jb ho1 hD (by omega) (λx H' o' Q' hb' ho' hq=>?_) λv xs o2 hl hP ho2=>?_
  ·simp!
   refine⟨b,26,_,rfl,hb',ho',by omega,by omega,λe o5 e0 e1 ho5=>?_⟩
   simp!
   refine⟨by omega,(Str.ofString "abcdefghijklmnopqrstuvwxyz").cps.toList[e.toNat]'(by omega),jcg e0 (by simp),hq _ _ ⟨_,rfl,hab _ (Ov _)⟩ ho5⟩
  obtain⟨ys,rfl,hy1,hy2'⟩:=jiv hP
  have hy2:∀y∈ys,y.length=1:=λy hy=>(hy2' y hy).1
  rw[Ad]at hl
  obtain⟨xs2,rfl⟩:=id ho2.lst
  have f1:upd (upd (upd H b (.lst xs1)) b (.lst xs2)) D (.lst (ys.map V.str)) b=some (.lst xs2):=by rw[jd nbD,jb]
  have f2:upd (upd (upd H b (.lst xs1)) b (.lst xs2)) D (.lst (ys.map V.str)) D=some (.lst (ys.map V.str)):=jb
  have f3:Kp [b] H (upd (upd (upd H b (.lst xs1)) b (.lst xs2)) D (.lst (ys.map V.str))):=(((Kp.refl [b] H).set hb (.inl (.head _))).set jb (.inl (.head _))).new (by rw[jd nbD.symm];exact hD)
  revert f1 f2 f3
  generalize upd (upd (upd H b (.lst xs1)) b (.lst xs2)) D (.lst (ys.map V.str))=H2
  intro f1 f2 f3
  refine⟨b,_,_,rfl,f1,ho2,by omega,by omega,λsp o3 sp0 sp1 ho3=>?_⟩
  obtain⟨xs3,rfl⟩:=id ho3.lst
  refine⟨b,_,_,rfl,jb,ho3,by omega,by omega,λfi o4 fi0 fi1 ho4=>?_⟩
  obtain⟨xs4,rfl⟩:=id ho4.lst
  refine⟨by omega,λc hc=>?_⟩
  rw[jdb]at hc⊢
  have g1:upd H2 b (.lst xs4) D=some (.lst (ys.map V.str)):=by rw[jd nbD.symm];exact f2
  have g3:Kp [b] H (upd H2 b (.lst xs4)):=f3.set f1 (.inl (.head _))
  have nbc:b≠c:=je jb hc
  have nDc:D≠c:=je g1 hc
  have hc0:H c=none:=g3.free hc
  refine⟨by omega,by omega,?_⟩
  rw[Int.toNat_natCast]
  refine jcv (λi σ H'=>∃(zs:List Str)(o':HO)(v1 v2 v3 v4:Option V),σ=[some (.ref b),some (.int (m:Int)),some (.str "abcdefghijklmnopqrstuvwxyz"),some (.int (1+(n:Int))),some (.ref D),some (.int sp),some (.int fi),some (.ref c),v1,v2,v3,v4] /\
   zs.length=i/\(∀z∈zs,NmOk z)/\H' c=some (.lst (zs.map V.str))/\BoxO o'/\H' b=some o'/\H' D=some (.lst (ys.map V.str))/\Kp [b] H H') ?_ ?_ ?_
  ·exact⟨[],_,none,none,none,none,rfl,rfl,(λ_ h=>nomatch h),jb,ho4,by rw[jd nbc,jb],by rw[jd nDc];exact g1,g3.new hc⟩
  ·rintro i σ H' hi ⟨zs,o',v1,v2,v3,v4,rfl,hz1,hz2,hc',ho',hb',hD',kp⟩
   simp!
   have q0:=Int.emod_nonneg (fi+5*(0+(i:Int))) (show(26:Int)≠0 by decide)
   have q1:=Y5 (fi+5*(0+(i:Int))) (show(0:Int)<26 by decide)
   refine⟨.inl ⟨by omega,by omega⟩,by decide,by omega,(Str.ofString "abcdefghijklmnopqrstuvwxyz").cps.toList[((fi+5*(0+(i:Int)))%26).toNat]'(by omega),jcg q0 (by simp),?_⟩
   have hch:(Str.ofString "abcdefghijklmnopqrstuvwxyz").cps.toList[((fi+5*(0+(i:Int)))%26).toNat]'(by omega)<=122:=hab _ (Ov _)
   generalize(Str.ofString "abcdefghijklmnopqrstuvwxyz").cps.toList[((fi+5*(0+(i:Int)))%26).toNat]'(by omega)=ch at hch
   have lch:(⟨#[ch]⟩:Str).length=1:=rfl
   refine rSlU.lst hD' λs1 hs1=>?_
   rw[jgs]
   have a1:HT.sIx ys.length 0 none=0:=rfl
   have a2:HT.sIx ys.length ys.length (some sp)=sp.toNat:=by simp only[HT.sIx];split <;> omega
   have a3:HT.sIx ys.length 0 (some (sp+1))=sp.toNat+1:=by simp only[HT.sIx];split <;> omega
   have a4:HT.sIx ys.length ys.length none=ys.length:=rfl
   generalize hL1:(ys.drop (HT.sIx ys.length 0 none)).take (HT.sIx ys.length ys.length (some sp)-HT.sIx ys.length 0 none)=La
   have l1:La.length=sp.toNat:=by rw[<-hL1,a1,a2,A5,Yf];omega
   have o1:∀z∈La,z.length=1:=λz hz=>by rw[<-hL1]at hz;exact hy2 z (Wo (U7 hz))
   have sm:∀L:List Str,(∀z∈L,z.length=1)->(L.map (·.length)).sum=L.length:=by
    intro L
    induction L with
    |nil=>intro _;rfl
    |cons y L ih=>intro h;simp[h y (.head _),ih λz hz=>h z (.tail _ hz)];omega
   refine⟨La,jb,by rw[sm La o1];show La.length+La.length*0<=_;omega,?_⟩
   have j1:=jfr La o1
   have w1:lowS (Txt.join (Str.ofString "") La):=lowS.join λz hz=>by rw[<-hL1]at hz;exact(hy2' z (Wo (U7 hz))).2
   generalize Txt.join (Str.ofString "") La=t1 at j1 w1⊢
   simp!
   refine⟨by omega,?_⟩
   have nDs:D≠s1:=je hD' hs1
   have hD2:∀o,upd H' s1 o D=some (.lst (ys.map V.str)):=λo=>by rw[jd nDs];exact hD'
   refine rSlU.lst (hD2 _) λs2 hs2=>?_
   rw[jgs]
   generalize hL2:(ys.drop (HT.sIx ys.length 0 (some (sp+1)))).take (HT.sIx ys.length ys.length none-HT.sIx ys.length 0 (some (sp+1)))=Lb
   have l2:Lb.length=n-sp.toNat:=by rw[<-hL2,a3,a4,A5,Yf];omega
   have o2:∀z∈Lb,z.length=1:=λz hz=>by rw[<-hL2]at hz;exact hy2 z (Wo (U7 hz))
   refine⟨Lb,jb,by rw[sm Lb o2];show Lb.length+Lb.length*0<=_;omega,?_⟩
   have j2:=jfr Lb o2
   have w2:lowS (Txt.join (Str.ofString "") Lb):=lowS.join λz hz=>by rw[<-hL2]at hz;exact(hy2' z (Wo (U7 hz))).2
   generalize Txt.join (Str.ofString "") Lb=t2 at j2 w2⊢
   simp!
   refine⟨by rw[jd5];omega,?_⟩
   have lnm:(t1++(⟨#[ch]⟩:Str)++t2).length=n+1:=by rw[jd5,jd5];omega
   have wnm:lowS (t1++(⟨#[ch]⟩:Str)++t2):=(w1.app (lowS.one hch)).app w2
   generalize t1++(⟨#[ch]⟩:Str)++t2=nm at lnm wnm⊢
   have nbs1:b≠s1:=je hb' hs1
   have ncs1:c≠s1:=je hc' hs1
   have e1:upd (upd H' s1 (.lst (La.map V.str))) s2 (.lst (Lb.map V.str)) b=some o':=by rw[jd (je (by rw[jd nbs1];exact hb') hs2),jd nbs1];exact hb'
   have e2:upd (upd H' s1 (.lst (La.map V.str))) s2 (.lst (Lb.map V.str)) c=some (.lst (zs.map V.str)):=by rw[jd (je (by rw[jd ncs1];exact hc') hs2),jd ncs1];exact hc'
   have e3:upd (upd H' s1 (.lst (La.map V.str))) s2 (.lst (Lb.map V.str)) D=some (.lst (ys.map V.str)):=by rw[jd (je (hD2 _) hs2)];exact hD2 _
   have e4:Kp [b] H (upd (upd H' s1 (.lst (La.map V.str))) s2 (.lst (Lb.map V.str))):=(kp.new hs1).new hs2
   revert e1 e2 e3 e4
   generalize upd (upd H' s1 (.lst (La.map V.str))) s2 (.lst (Lb.map V.str))=H5
   intro e1 e2 e3 e4
   refine⟨JN H b D c m n sp fi i ch v4 ys zs,?_,?_⟩
   ·simp!
    refine⟨by decide,ite2 (λh1=>ite2 (λh2=>?_) (λh2=>?_)) (λh1=>?_)⟩
    ·refine⟨b,_,_,rfl,e1,ho',by omega,by omega,λd9 o9 d90 d91 ho9=>?_⟩
     obtain⟨xs9,rfl⟩:=id ho9.lst
     obtain⟨xs8,rfl⟩:=id ho'.lst
     simp!
     have k9:=e4.set (o:=.lst xs9) e1 (.inl (by simp))
     have c9:upd H5 b (.lst xs9) c=some (.lst (zs.map V.str)):=by rw[jd nbc.symm];exact e2
     have D9:upd H5 b (.lst xs9) D=some (.lst (ys.map V.str)):=by rw[jd nbD.symm];exact e3
     refine ite2 (λh3=>?_) (λh3=>?_)
     ·exact⟨by omega,_,_,rfl,⟨by rw[jd5];omega,wnm.app hlq⟩,ho9,jb,c9,D9,k9⟩
     ·exact⟨_,_,rfl,⟨by omega,wnm⟩,ho9,jb,c9,D9,k9⟩
    ·exact⟨_,_,rfl,⟨by omega,wnm⟩,ho',e1,e2,e3,e4⟩
    ·exact⟨_,_,rfl,⟨by omega,wnm⟩,ho',e1,e2,e3,e4⟩
   ·rintro σ6 H6 ⟨nm,o6,rfl,hn6,ho6,hb6,hc6,hD6,kp6⟩
    refine⟨JN H b D c m n sp fi i ch v4 ys zs,?_,?_⟩
    ·simp!
     refine⟨by omega,λp9 hp9=>rInU.tupS (SqT.of jb) rfl (by decide) ⟨_,rfl,?_⟩⟩
     have k9:=kp6.new (o:=.tup [V.str (Str.ofString "yes"),V.str (Str.ofString "is"),V.str (Str.ofString "not"),V.str (Str.ofString "and"),V.str (Str.ofString "or")]) hp9
     have b9:=jd (H:=H6) (o:=.tup [V.str (Str.ofString "yes"),V.str (Str.ofString "is"),V.str (Str.ofString "not"),V.str (Str.ofString "and"),V.str (Str.ofString "or")]) (je hb6 hp9)
     have c9:=jd (H:=H6) (o:=.tup [V.str (Str.ofString "yes"),V.str (Str.ofString "is"),V.str (Str.ofString "not"),V.str (Str.ofString "and"),V.str (Str.ofString "or")]) (je hc6 hp9)
     have D9:=jd (H:=H6) (o:=.tup [V.str (Str.ofString "yes"),V.str (Str.ofString "is"),V.str (Str.ofString "not"),V.str (Str.ofString "and"),V.str (Str.ofString "or")]) (je hD6 hp9)
     refine ite2 (λh3=>?_) (λh3=>?_)
     ·exact⟨by omega,_,_,rfl,⟨by rw[jd5];omega,hlqq.app (lowS.one hch)⟩,ho6,b9.trans hb6,c9.trans hc6,D9.trans hD6,k9⟩
     ·exact⟨_,_,rfl,hn6,ho6,b9.trans hb6,c9.trans hc6,D9.trans hD6,k9⟩
    ·rintro σ7 H7 ⟨nm,o7,rfl,hn7,ho7,hb7,hc7,hD7,kp7⟩
     simp! [hc7]
     refine⟨by rw[Ad];omega,zs++[nm],o7,_,_,_,_,⟨rfl,rfl,rfl,rfl⟩,by simp[hz1],λz hz=>?_,by simp,ho7,by rw[jd nbc];exact hb7,by rw[jd nDc];exact hD7,kp7.set hc7 (.inr hc0)⟩
     rcases Is.mp hz with h|h
     ·exact hz2 z h
     ·rw[Ah.mp h];exact hn7
  ·rintro σ H' ⟨zs,o',v1,v2,v3,v4,rfl,hz1,hz2,hc',ho',hb',hD',kp⟩
   simp!
   refine⟨λσ H9=>σ[7]?=some (some (.ref c))/\∃(zs:List Str)(o':HO),zs.length=m/\(∀z∈zs,NmOk z)/\H9 c=some (.lst (zs.map V.str))/\BoxO o'/\H9 b=some o'/\Kp [b] H H9,?_,?_⟩
   ·simp!
    refine⟨b,_,_,rfl,hb',ho',by omega,by omega,λd9 o9 d90 d91 ho9=>?_⟩
    obtain⟨xs9,rfl⟩:=id ho9.lst
    obtain⟨xs8,rfl⟩:=id ho'.lst
    simp!
    have k9:=kp.set (o:=.lst xs9) hb' (.inl (by simp))
    have c9:upd H' b (.lst xs9) c=some (.lst (zs.map V.str)):=by rw[jd nbc.symm];exact hc'
    refine ite2 (λh3=>?_) (λh3=>?_)
    ·refine⟨by omega,λp2 hp2=>?_⟩
     have nb2:b≠p2:=je jb hp2
     have nc2:c≠p2:=je c9 hp2
     refine⟨b,_,_,rfl,by rw[jd nb2,jb],ho9,by omega,by omega,λd8 o8 d80 d81 ho8=>?_⟩
     obtain⟨xs7,rfl⟩:=id ho8.lst
     have odd:∃od:Str,([V.str (Str.ofString "som"),V.str (Str.ofString "eac"),V.str (Str.ofString "no"),V.str (Str.ofString "an"),V.str (Str.ofString "ors"),V.str (Str.ofString "iss"),V.str (Str.ofString "so"),V.str (Str.ofString "ye")]:List V)[d8.toNat]?=some (.str od)/\NmOk od:=by
      have hn:d8.toNat<8:=by omega
      generalize d8.toNat=e at hn
      have:e=0\/e=1\/e=2\/e=3\/e=4\/e=5\/e=6\/e=7:=by omega
      rcases this with rfl|rfl|rfl|rfl|rfl|rfl|rfl|rfl <;> exact⟨_,rfl,by unfold NmOk lowS;decide +kernel⟩
     obtain⟨od,hod,lod⟩:=odd
     have p8:∀o,upd (upd (upd H' b (.lst xs9)) p2 o) b (.lst xs7) p2=some o:=λo=>by rw[jd nb2.symm,jb]
     simp! [p8]
     refine⟨_,jcg d80 hod,?_⟩
     have c8:∀o,upd (upd (upd H' b (.lst xs9)) p2 o) b (.lst xs7) c=some (.lst (zs.map V.str)):=λo=>by rw[jd nbc.symm,jd nc2];exact c9
     have k8:∀o,Kp [b] H (upd (upd (upd H' b (.lst xs9)) p2 o) b (.lst xs7)):=λo=>(k9.new hp2).set (by rw[jd nb2,jb]) (.inl (by simp))
     refine rInU.lst (c8 _) rfl (by simp[List.all_map];intro z _;rfl) ⟨_,rfl,?_⟩
     refine ite2 (λh4=>?_) (λh4=>?_)
     ·refine⟨b,_,_,rfl,jb,ho8,by omega,by omega,λd7 o7 d70 d71 ho7=>?_⟩
      obtain⟨xs6,rfl⟩:=id ho7.lst
      have c7:∀o,upd (upd (upd (upd H' b (.lst xs9)) p2 o) b (.lst xs7)) b (.lst xs6) c=some (.lst (zs.map V.str)):=λo=>by rw[jd nbc.symm];exact c8 o
      simp! [c7]
      have c6:∀o,upd (upd (upd H' b (.lst xs9)) p2 o) b (.lst xs6) c=some (.lst (zs.map V.str)):=λo=>by rw[jd nbc.symm,jd nc2];exact c9
      have k6:∀o,Kp [b] H (upd (upd (upd H' b (.lst xs9)) p2 o) b (.lst xs6)):=λo=>(k9.new hp2).set (by rw[jd nb2,jb]) (.inl (by simp))
      refine⟨_,by rw[c6];rfl,d7.toNat,by unfold ixN;rw[Ap d70,Ap (by rw[Ad];omega)],zs.set d7.toNat od,by simp[hz1],λz hz=>?_,by rw[List.map_set],_,ho7,by rw[jd nbc,jb],(k6 _).set (c6 _) (.inr hc0)⟩
      rcases List.mem_or_eq_of_mem_set hz with h|h
      ·exact hz2 z h
      ·rw[h];exact lod
     ·exact⟨zs,hz1,hz2,c8 _,_,ho8,jb,k8 _⟩
    ·exact⟨zs,hz1,hz2,c9,_,ho9,rfl,k9⟩
   ·rintro σ H9 ⟨e,zs,o',hz1,hz2,hc9,ho9,hb9,kp9⟩
    simp!
    exact⟨_,e,k c zs o' H9 hz1 hz2 hc0 hc9 ho9 hb9 kp9⟩
end
theorem jps{c1 c2 A B:Prop}[Decidable c1][Decidable c2](h1:c1\/c2->A)(h2:¬c1->¬c2->B):if c1 then A else if c2 then A else B:=by
 by_cases a:c1
 ·rw[Ap a];exact h1 (.inl a)
 ·rw[At a]
  by_cases b:c2
  ·rw[Ap b];exact h1 (.inr b)
  ·rw[At b];exact h2 a b
def IR(H:Hp)(b p q:Addr)(z:Str)(zn:List Str)(m:Nat)(i:Nat):L2.St->Hp->Prop:=λσ H'=>∃(vs:List V)(rs:List RS)(o:HO)(v5 v6 v7 v8 v9:Option V),σ=[some (.ref b),some (.str z),some (.ref p),some (.int (m:Int)),some (.ref q),v5,v6,v7,v8,v9] /\
 rs.length=i/\RowsAt H' vs rs/\okR zn rs/\H' q=some (.lst vs)/\BoxO o/\H' b=some o/\Kp [b] H H'
theorem IR.step{H H9:Hp}{b p q:Addr}{z:Str}{zn:List Str}{m i:Nat}{vs:List V}{rs:List RS}{o:HO}{v5 v6 v7 v8 v9:Option V}(r:RS)(t:Addr)(hr:r.ok zn i)(ht:H9 t=some (.tup (rowV r)))(hl:rs.length=i)(ra:RowsAt H9 vs rs)(ok:okR zn rs)
  (hq:H9 q=some (.lst vs)) (hq0:H q=none) (ho:BoxO o) (hb:H9 b=some o) (nbq:b≠q) (kp:Kp [b] H H9):IR H b p q z zn m (i+1) [some (.ref b),some (.str z),some (.ref p),some (.int (m:Int)),some (.ref q),v5,v6,v7,v8,v9] (upd H9 q (.lst (vs++[.ref t]))):=by
 have kq:Kp [q] H9 (upd H9 q (.lst (vs++[.ref t]))):=(Kp.refl [q] H9).set hq (.inl (.head _))
 exact⟨vs++[.ref t],rs++[r],o,v5,v6,v7,v8,v9,rfl,by simp[hl],O9 (ra.kp kq) ⟨t,rfl,kq.tup _ _ ht⟩,ok.snoc (by rw[hl];exact hr),jb,ho,by rw[jd nbq];exact hb,kp.set hq (.inr hq0)⟩
structure Fc(H:Hp)(b q:Addr)(us:List V)(rs:List RS)(o:HO)(H1:Hp):Prop where
 hb:H1 b=some o
 ho:BoxO o
 hq:H1 q=some (.lst us)
 ra:RowsAt H1 us rs
 kp:Kp [b] H H1
theorem Fc.new{H H1:Hp}{b q:Addr}{us:List V}{rs:List RS}{o x:HO}{t:Addr}(F:Fc H b q us rs o H1)(ht:H1 t=none):Fc H b q us rs o (upd H1 t x) :=
 ⟨by rw[jd (je F.hb ht)];exact F.hb,F.ho,by rw[jd (je F.hq ht)];exact F.hq,F.ra.kp ((Kp.refl [b] H1).new ht),F.kp.new ht⟩
theorem Fc.step{H H1 H2:Hp}{b q:Addr}{us:List V}{rs:List RS}{o o':HO}(F:Fc H b q us rs o H1)(nbq:b≠q)(k:Kp [b] H1 H2)(ho:BoxO o')(hb:H2 b=some o'):Fc H b q us rs o' H2 :=
 ⟨hb,ho,k.old _ _ F.hq (by simpa using nbq.symm),F.ra.kp k,F.kp.trans k⟩
theorem Fc.box{H H1:Hp}{b q:Addr}{us:List V}{rs:List RS}{o o':HO}(F:Fc H b q us rs o H1)(nbq:b≠q)(ho:BoxO o'):Fc H b q us rs o' (upd H1 b o'):=by
 obtain⟨xs,rfl⟩:=F.ho.lst
 exact F.step nbq ((Kp.refl [b] H1).set F.hb (.inl (by simp))) ho jb
def spSR:Sp:=λvs H Q _=>∃(b p:Addr)(z:Str)(zs:List Str)(m:Nat)(o:HO),vs=[.ref b,.str z,.ref p,.int (m:Int)]/\H b=some o/\BoxO o/\Letters z 4/\H p=some (.lst (zs.map V.str))/\1<=zs.length/\zs.length<=26/\1<=m/\m<=60/\b≠p /\
 ∀(q:Addr)(us:List V)(rs:List RS)(o':HO)(H':Hp),1<=rs.length->rs.length<=m->RowsAt H' us rs->okR zs rs->H q=none->H' q=some (.lst us)->BoxO o'->H' b=some o'->Kp [b] H H'->Q (.ref q) H'
structure TSR(mg:Str->Option Value)(ft fr:Addr):Prop where
 n_range:mg "range"=none
 n_len:mg "len"=none
 m0z:mg "_law_take"=some (.ref ft)
 m7z:mg "_law_row_at"=some (.ref fr)
theorem jl2{zs:List Str}{d:Int}(h0:0<=d)(h:d<(zs.length:Int)):∃y,y∈zs/\atI (zs.map V.str) d=some (.str y) :=
 ⟨zs[d.toNat]'(by omega),Ov _,jcg h0 (by rw[Ax];simp)⟩
section
variable{P:Program}{w:World}{K:PySem.W.Frag}{mg:Str->Option Value}{base:Heap}
abbrev kz:Stmt:=top 21
theorem kr:FnScope ["_law_box_here","_law_letters_here","_law_names","_law_most","_law_rows","_law_k","_law_kind","_law_x","_law_y","_law_base"] ["_law_box_here","_law_letters_here","_law_names","_law_most"] (jh kz):=⟨rfl,rfl,rfl,by decide +kernel,rfl,by decide +kernel,by decide +kernel⟩
theorem ok__law_saying_rows{f ft fr:Addr}{fd fdt fdr:FuncData}(F:Fun K "_law_saying_rows" "_law_saying_rows" kz f fd)(T:TSR mg ft fr)(F0z:Fun K "_law_take" "_law_take" j7 ft fdt)(b0z:Binds K fdt ["_law_box_here","_law_wide"] [])
  (G0z:FnOk P w K mg base CX0 1 ft fdt ["_law_box_here","_law_wide"] jc7) (F7z:Fun K "_law_row_at" "_law_row_at" yy fr fdr) (b7z:Binds K fdr ["_law_box_here","_law_k"] [])
  (G7z:FnOk P w K mg base CX0 2 fr fdr ["_law_box_here","_law_k"] jkp):FnOk P w K mg base CX0 3 f fd ["_law_box_here","_law_letters_here","_law_names","_law_most"] spSR:=by
 refine F.ok kr (λvs H Q E h=>?_) (λcdv A outer s H vs Q E hr h=>?_)
 ·obtain⟨b,p,z,zs,m,o,rfl,_⟩:=h
  rfl
 ·obtain⟨b,p,z,zs,m,o,rfl,hb,ho,hz,hp,z1,z2,m1,m2,nbp,k⟩:=h
  have hu:=hr.units
  refine⟨_,(QSs.h (jg (jl (i:=4) kr.nd rfl (by first|exact Or.inl rfl|exact Or.inr rfl) (j5 jc))
  (jg (yp Iv rfl (yu rfl T.n_range (ja (jq j8 jf (jj G0z (hr.mono (by decide)) rfl T.m0z F0z.kp b0z .nil jo (ja (qpv 0) (ja (qpv 3) jc)))) jc)) (jt (i:=5) kr.nd rfl (by first|exact Or.inl rfl|exact Or.inr rfl)) (jg (jl (i:=6) kr.nd rfl (by first|exact Or.inl rfl|exact Or.inr rfl) (jj G0z (hr.mono (by decide)) rfl T.m0z F0z.kp b0z .nil jo (ja (qpv 0) (ja jf jc))))
  (jg (jl (i:=7) kr.nd rfl (by first|exact Or.inl rfl|exact Or.inr rfl) (jk ix_U (qpv 2) (jj G0z (hr.mono (by decide)) rfl T.m0z F0z.kp b0z .nil jo (ja (qpv 0) (ja (jv j6 (by rfl) T.n_len kc (ja (qpv 2) jc)) jc))) (λ_ _=>rfl)))
  (ji (j0 (QW.pt (jal (jn (j3 hu) (qpv 5) jf (jr _)) (z8 (jn jab (qpv 6) jf (jr _))))) (jg (jl (i:=8) kr.nd rfl (by first|exact Or.inl rfl|exact Or.inr rfl) (jk ix_U (qpv 2) (jj G0z (hr.mono (by decide)) rfl T.m0z F0z.kp b0z .nil jo (ja (qpv 0) (ja (jv j6 (by rfl) T.n_len kc (ja (qpv 2) jc)) jc))) (λ_ _=>rfl)))
  (jg (jl (i:=9) kr.nd rfl (by first|exact Or.inl rfl|exact Or.inr rfl) (j5 (ja (j9 (ja jm (ja (qpv 7) (ja (jk ix_U (qpv 1) (jj G0z (hr.mono (by decide)) rfl T.m0z F0z.kp b0z .nil jo (ja (qpv 0) (ja (jv j6 (by rfl) T.n_len kc (ja (qpv 1) jc)) jc))) (λ_ _=>rfl)) jc)))) (ja (j9 (ja jm (ja (qpv 7) (ja (qpv 8) jc)))) (ja (j9 (ja jm jc)) jc)))))
  (ji (ky (yh A7 A8 ku (qpv 4) (ja (jk ix_U (qpv 9) (jk ix_U (j5 (ja jf (ja jf (ja jf (ja jf (ja jf (ja jf (ja jf jc)))))))) (jj G0z (hr.mono (by decide)) rfl T.m0z F0z.kp b0z .nil jo (ja (qpv 0) (ja jf jc))) (λ_ _=>rfl)) (λ_ _=>rfl)) jc) jcl))))) (ji (j0 (jn jab (qpv 6) jf (jr _)) (ji (ky (yh A7 A8 ku (qpv 4) (ja (j9 (ja jm (ja (jj G7z (hr.mono (by decide)) rfl T.m7z F7z.kp b7z .nil jo (ja (qpv 0) (ja (qpv 5) jc))) jc))) jc) jcl))) (ji (j0 (jn jab (qpv 6) jf (jr _)) (ji (ky (yh A7 A8 ku (qpv 4) (ja (j9 (ja (jk ix_U (j5 (ja jm (ja jm (ja jm jc)))) (jq jac (qpv 6) jf) (λ_ _=>rfl)) (ja (jj G7z (hr.mono (by decide)) rfl T.m7z F7z.kp b7z .nil jo (ja (qpv 0) (ja (qpv 5) jc))) (ja (jj G0z (hr.mono (by decide)) rfl T.m0z F0z.kp b0z .nil jo (ja (qpv 0) (ja (qpv 5) jc))) jc)))) jc) jcl))) (ji (ky (yh A7 A8 ku (qpv 4) (ja (j9 (ja (jk ix_U (j5 (ja jm (ja jm (ja jm jc)))) (jq jac (qpv 6) jf) (λ_ _=>rfl)) (ja (qpv 7) (ja (jj G7z (hr.mono (by decide)) rfl T.m7z F7z.kp b7z .nil jo (ja (qpv 0) (ja (qpv 5) jc))) jc)))) jc) jcl))))))))))))
  (ji (jp (qpv 4)))))),?_⟩
  have hsz:sizeLine=16777216:=Aq
  simp!
  refine⟨by omega,λq hq=>?_⟩
  have nbq:b≠q:=je hb hq
  have npq:p≠q:=je hp hq
  refine⟨b,(m:Int),o,rfl,by rw[jd nbq];exact hb,ho,by omega,by omega,λd o1 d0 d1 ho1=>?_⟩
  obtain⟨n,rfl⟩:∃n:Nat,d=(n:Int):=⟨d.toNat,by omega⟩
  have en:(1+(n:Int)).toNat=n+1:=by omega
  obtain⟨xs0,rfl⟩:=ho.lst
  obtain⟨xs1,rfl⟩:=id ho1.lst
  simp!
  refine⟨by omega,by omega,?_⟩
  rw[en]
  refine jcv (IR H b p q z zs m) ?_ ?_ ?_
  ·exact⟨[],[],_,none,none,none,none,none,rfl,rfl,.nil,(λk r e=>by simp at e),by rw[jd nbq.symm,jb],ho1,jb,((Kp.refl [b] H).new hq).set (by rw[jd nbq];exact hb) (.inl (by simp))⟩
  ·rintro i σ H1 hi ⟨us,rs,o2,v5,v6,v7,v8,v9,rfl,hl,ra,ok,hq1,ho2,hb1,kp⟩
   have hp1:H1 p=some (.lst (zs.map V.str)):=kp.old _ _ hp (by simpa using nbp.symm)
   obtain⟨xs2,rfl⟩:=id ho2.lst
   simp!
   refine⟨b,12,_,rfl,hb1,ho2,by omega,by omega,λkd o3 kd0 kd1 ho3=>?_⟩
   obtain⟨xs3,rfl⟩:=id ho3.lst
   have pA:∀o,upd H1 b o p=some (.lst (zs.map V.str)):=λo=>by rw[jd nbp.symm];exact hp1
   have qA:∀o,upd H1 b o q=some (.lst us):=λo=>by rw[jd nbq.symm];exact hq1
   have kA:∀o,Kp [b] H (upd H1 b o):=λo=>kp.set hb1 (.inl (.head _))
   simp! [pA]
   refine⟨b,_,_,rfl,jb,ho3,by rw[Ad];omega,by rw[Ad];omega,λdx o4 dx0 dx1 ho4=>?_⟩
   obtain⟨xs4,rfl⟩:=id ho4.lst
   rw[Ad]at dx1
   simp! [pA]
   obtain⟨x,hx,ax⟩:=jl2 dx0 dx1
   refine⟨_,ax,jps (λh1=>?_) (λh1 h2=>ite2 (λh3=>?_) (λh3=>ite2 (λh4=>?_) (λh4=>?_)))⟩
   ·have F0:Fc H b q us rs (.lst xs4) (upd H1 b (.lst xs4)):=⟨jb,ho4,qA _,ra.kp ((Kp.refl [b] H1).set hb1 (.inl (.head _))),kA _⟩
    refine⟨b,_,_,rfl,jb,ho4,by rw[Ad];omega,by rw[Ad];omega,λdy o5 dy0 dy1 ho5=>?_⟩
    rw[Ad]at dy1
    obtain⟨xs5,rfl⟩:=id ho5.lst
    simp! [pA]
    obtain⟨y,hy,ay⟩:=jl2 dy0 dy1
    have:=hz.lo
    have:=hz.hi
    refine⟨_,ay,by omega,b,_,_,rfl,jb,ho5,by omega,by omega,λdz o6 dz0 dz1 ho6=>?_⟩
    obtain⟨xs6,rfl⟩:=id ho6.lst
    simp!
    have hzl:z.cps.toList.length=z.length:=by simp[Str.length]
    refine⟨by omega,z.cps.toList[dz.toNat]'(by omega),jcg dz0 (by simp),by omega,λt1 ht1=>⟨by omega,λt2 ht2=>⟨by omega,λt3 ht3=>⟨by omega,λt4 ht4=>?_⟩⟩⟩⟩
    have F1:Fc H b q us rs (.lst xs6) (upd H1 b (.lst xs6)):=⟨jb,ho6,qA _,ra.kp ((Kp.refl [b] H1).set hb1 (.inl (.head _))),kA _⟩
    generalize z.cps.toList[dz.toNat]'(by omega)=ch at ht2 ht3 ht4⊢
    have F4:=(((F1.new (x:=.tup [V.str (Str.ofString "is"),V.str x,V.str ⟨#[ch]⟩]) ht1).new (x:=.tup [V.str (Str.ofString "ahead"),V.str x,V.str y]) ht2).new (x:=.tup [V.str (Str.ofString "yes")]) ht3).new (x:=.lst [V.ref t1,V.ref t2,V.ref t3]) ht4
    have n12:t1≠t2:=je jb ht2
    have n23:t2≠t3:=je jb ht3
    have n34:t3≠t4:=je jb ht4
    have n13:t1≠t3:=je (by rw[jd n12,jb]) ht3
    have n24:t2≠t4:=je (by rw[jd n23,jb]) ht4
    have n14:t1≠t4:=je (by rw[jd n13,jd n12,jb]) ht4
    have g1:upd (upd (upd (upd (upd H1 b (.lst xs6)) t1 (.tup [V.str (Str.ofString "is"),V.str x,V.str ⟨#[ch]⟩])) t2 (.tup [V.str (Str.ofString "ahead"),V.str x,V.str y])) t3 (.tup [V.str (Str.ofString "yes")])) t4 (.lst [V.ref t1,V.ref t2,V.ref t3]) t1=some (.tup (rowV (.is x ⟨#[ch]⟩))):=by rw[jd n14,jd n13,jd n12,jb];rfl
    have g2:upd (upd (upd (upd (upd H1 b (.lst xs6)) t1 (.tup [V.str (Str.ofString "is"),V.str x,V.str ⟨#[ch]⟩])) t2 (.tup [V.str (Str.ofString "ahead"),V.str x,V.str y])) t3 (.tup [V.str (Str.ofString "yes")])) t4 (.lst [V.ref t1,V.ref t2,V.ref t3]) t2=some (.tup (rowV (.ahead x y))):=by rw[jd n24,jd n23,jb];rfl
    have g3:upd (upd (upd (upd (upd H1 b (.lst xs6)) t1 (.tup [V.str (Str.ofString "is"),V.str x,V.str ⟨#[ch]⟩])) t2 (.tup [V.str (Str.ofString "ahead"),V.str x,V.str y])) t3 (.tup [V.str (Str.ofString "yes")])) t4 (.lst [V.ref t1,V.ref t2,V.ref t3]) t3=some (.tup (rowV .yes)):=by rw[jd n34,jb];rfl
    have g4:upd (upd (upd (upd (upd H1 b (.lst xs6)) t1 (.tup [V.str (Str.ofString "is"),V.str x,V.str ⟨#[ch]⟩])) t2 (.tup [V.str (Str.ofString "ahead"),V.str x,V.str y])) t3 (.tup [V.str (Str.ofString "yes")])) t4 (.lst [V.ref t1,V.ref t2,V.ref t3]) t4=some (.lst [V.ref t1,V.ref t2,V.ref t3]):=jb
    revert F4 g1 g2 g3 g4
    generalize upd (upd (upd (upd (upd H1 b (.lst xs6)) t1 (.tup [V.str (Str.ofString "is"),V.str x,V.str ⟨#[ch]⟩])) t2 (.tup [V.str (Str.ofString "ahead"),V.str x,V.str y])) t3 (.tup [V.str (Str.ofString "yes")])) t4 (.lst [V.ref t1,V.ref t2,V.ref t3])=H5
    intro F4 g1 g2 g3 g4
    refine⟨by rw[F4.hq];rfl,by omega,λt5 ht5=>?_⟩
    have F5:=F4.new (x:=.lst [V.int 0,V.int 0,V.int 0,V.int 1,V.int 1,V.int 1,V.int 2]) ht5
    refine⟨b,_,_,rfl,F5.hb,F5.ho,by omega,by omega,λe o7 e0 e1 ho7=>?_⟩
    have F6:=F5.box nbq ho7
    have nb5:b≠t5:=je F4.hb ht5
    have nb4:b≠t4:=λz=>by subst z;have:=F4.hb;rw[g4]at this;obtain⟨c,sd,q1,_⟩:=F4.ho;rw[q1]at this;cases this
    have n45:t4≠t5:=je g4 ht5
    have i5:∀o,upd (upd H5 t5 o) b o7 t5=some o:=λo=>by rw[jd nb5.symm,jb]
    have i4:∀o,upd (upd H5 t5 o) b o7 t4=some (.lst [V.ref t1,V.ref t2,V.ref t3]):=λo=>by rw[jd nb4.symm,jd n45];exact g4
    simp! [i5,i4]
    have k6:Kp [b] H5 (upd (upd H5 t5 (.lst [V.int 0,V.int 0,V.int 0,V.int 1,V.int 1,V.int 1,V.int 2])) b o7):=by
     obtain⟨xs9,e9⟩:=F4.ho.lst
     have hb5:=F5.hb
     rw[e9]at hb5
     exact((Kp.refl [b] H5).new ht5).set hb5 (.inl (.head _))
    have pick:∀(r:RS)(t:Addr),r.ok zs i->H5 t=some (.tup (rowV r))->∃xs_1,jcu (upd (upd H5 t5 (.lst [V.int 0,V.int 0,V.int 0,V.int 1,V.int 1,V.int 1,V.int 2])) b o7 q)=some xs_1/\xs_1.length<sizeLine /\
      IR H b p q z zs m (i+1) [some (V.ref b),some (V.str z),some (V.ref p),some (V.int (m:Int)),some (V.ref q),some (V.int (0+(i:Int))),some (V.int kd),some (V.str x),some (V.str y),some (V.ref t4)] (upd (upd (upd H5 t5 (.lst [V.int 0,V.int 0,V.int 0,V.int 1,V.int 1,V.int 1,V.int 2])) b o7) q (.lst (xs_1++[V.ref t]))) :=
     λr t hr ht=>⟨us,by rw[F6.hq];rfl,by have:us.length=rs.length:=Au ra;omega,IR.step r t hr (k6.tup _ _ ht) hl F6.ra ok F6.hq hq F6.ho F6.hb nbq F6.kp⟩
    have:e=0\/e=1\/e=2\/e=3\/e=4\/e=5\/e=6:=by omega
    rcases this with rfl|rfl|rfl|rfl|rfl|rfl|rfl
    ·exact⟨_,jcg (by decide) rfl,_,by rw[i4];rfl,_,jcg (by decide) rfl,pick (.is x ⟨#[ch]⟩) t1 hx g1⟩
    ·exact⟨_,jcg (by decide) rfl,_,by rw[i4];rfl,_,jcg (by decide) rfl,pick (.is x ⟨#[ch]⟩) t1 hx g1⟩
    ·exact⟨_,jcg (by decide) rfl,_,by rw[i4];rfl,_,jcg (by decide) rfl,pick (.is x ⟨#[ch]⟩) t1 hx g1⟩
    ·exact⟨_,jcg (by decide) rfl,_,by rw[i4];rfl,_,jcg (by decide) rfl,pick (.ahead x y) t2 ⟨hx,hy⟩ g2⟩
    ·exact⟨_,jcg (by decide) rfl,_,by rw[i4];rfl,_,jcg (by decide) rfl,pick (.ahead x y) t2 ⟨hx,hy⟩ g2⟩
    ·exact⟨_,jcg (by decide) rfl,_,by rw[i4];rfl,_,jcg (by decide) rfl,pick (.ahead x y) t2 ⟨hx,hy⟩ g2⟩
    ·exact⟨_,jcg (by decide) rfl,_,by rw[i4];rfl,_,jcg (by decide) rfl,pick .yes t3 trivial g3⟩
   ·have F0:Fc H b q us rs (.lst xs4) (upd H1 b (.lst xs4)):=⟨jb,ho4,qA _,ra.kp ((Kp.refl [b] H1).set hb1 (.inl (.head _))),kA _⟩
    refine⟨by rw[F0.hq];rfl,b,_,_,rfl,F0.hb,F0.ho,by omega,by omega,λe o7 H5 e0 e1 ho7 hb7 k7=>⟨by omega,λt ht=>?_⟩⟩
    obtain⟨j,rfl⟩:∃j:Nat,e=(j:Int):=⟨e.toNat,by omega⟩
    have F6:=(F0.step nbq k7 ho7 hb7).new (x:=.tup [V.str (Str.ofString "not"),V.int (j:Int)]) ht
    exact⟨us,by rw[F6.hq];rfl,by have:us.length=rs.length:=Au ra;omega,IR.step (.no j) t (show j<i by omega) jb hl F6.ra ok F6.hq hq F6.ho F6.hb nbq F6.kp⟩
   ·have F0:Fc H b q us rs (.lst xs4) (upd H1 b (.lst xs4)):=⟨jb,ho4,qA _,ra.kp ((Kp.refl [b] H1).set hb1 (.inl (.head _))),kA _⟩
    obtain⟨bb,hbb⟩:∃bb:Bool,atI [V.str (Str.ofString "and"),V.str (Str.ofString "and"),V.str (Str.ofString "or")] (kd-6)=some (.str (bw bb)):=by
     have:kd=6\/kd=7\/kd=8:=by omega
     rcases this with rfl|rfl|rfl
     ·exact⟨true,jcg (by decide) rfl⟩
     ·exact⟨true,jcg (by decide) rfl⟩
     ·exact⟨false,jcg (by decide) rfl⟩
    refine⟨by rw[F0.hq];rfl,by omega,λt0 ht0=>⟨_,hbb,?_⟩⟩
    have Fa:=F0.new (x:=.lst [V.str (Str.ofString "and"),V.str (Str.ofString "and"),V.str (Str.ofString "or")]) ht0
    refine⟨b,_,_,rfl,Fa.hb,Fa.ho,by omega,by omega,λe o7 H5 e0 e1 ho7 hb7 k7=>?_⟩
    have Fb:=Fa.step nbq k7 ho7 hb7
    refine⟨b,_,_,rfl,hb7,ho7,by omega,by omega,λe2 o8 e20 e21 ho8=>⟨by omega,λt ht=>?_⟩⟩
    obtain⟨j,rfl⟩:∃j:Nat,e=(j:Int):=⟨e.toNat,by omega⟩
    obtain⟨l,rfl⟩:∃l:Nat,e2=(l:Int):=⟨e2.toNat,by omega⟩
    have F6:=(Fb.box nbq ho8).new (x:=.tup [V.str (bw bb),V.int (j:Int),V.int (l:Int)]) ht
    exact⟨us,by rw[F6.hq];rfl,by have:us.length=rs.length:=Au ra;omega,IR.step (.bin bb j l) t (show j<i/\l<i by omega) jb hl F6.ra ok F6.hq hq F6.ho F6.hb nbq F6.kp⟩
   ·have F0:Fc H b q us rs (.lst xs4) (upd H1 b (.lst xs4)):=⟨jb,ho4,qA _,ra.kp ((Kp.refl [b] H1).set hb1 (.inl (.head _))),kA _⟩
    obtain⟨bb,hbb⟩:∃bb:Bool,atI [V.str (Str.ofString "some"),V.str (Str.ofString "some"),V.str (Str.ofString "each")] (kd-9)=some (.str (qw bb)):=by
     have:kd=9\/kd=10\/kd=11:=by omega
     rcases this with rfl|rfl|rfl
     ·exact⟨true,jcg (by decide) rfl⟩
     ·exact⟨true,jcg (by decide) rfl⟩
     ·exact⟨false,jcg (by decide) rfl⟩
    refine⟨by rw[F0.hq];rfl,by omega,λt0 ht0=>⟨_,hbb,?_⟩⟩
    have Fa:=F0.new (x:=.lst [V.str (Str.ofString "some"),V.str (Str.ofString "some"),V.str (Str.ofString "each")]) ht0
    refine⟨b,_,_,rfl,Fa.hb,Fa.ho,by omega,by omega,λe o7 H5 e0 e1 ho7 hb7 k7=>⟨by omega,λt ht=>?_⟩⟩
    obtain⟨j,rfl⟩:∃j:Nat,e=(j:Int):=⟨e.toNat,by omega⟩
    have F6:=(Fa.step nbq k7 ho7 hb7).new (x:=.tup [V.str (qw bb),V.str x,V.int (j:Int)]) ht
    exact⟨us,by rw[F6.hq];rfl,by have:us.length=rs.length:=Au ra;omega,IR.step (.qn bb x j) t ⟨hx,show j<i by omega⟩ jb hl F6.ra ok F6.hq hq F6.ho F6.hb nbq F6.kp⟩
  ·rintro σ H1 ⟨us,rs,o2,v5,v6,v7,v8,v9,rfl,hl,ra,ok,hq1,ho2,hb1,kp⟩
   simp!
   exact k q us rs o2 H1 (by omega) (by omega) ra ok hq hq1 ho2 hb1 kp
end
def FL(N:List Addr)(H:Hp)(ys:List V)(F:List (List Str)):Prop:=Paired (λy l=>∃q,y=.ref q/\q∉N/\H q=some (.lst (l.map V.str))) ys F
theorem FL.kp{N S:List Addr}{H H':Hp}{ys:List V}{F:List (List Str)}(hS:∀x∈S,x∈N)(k:Kp S H H')(h:FL N H ys F):FL N H' ys F:=Paired.mapP h λ_ _ ⟨q,e,n,g⟩=>⟨q,e,n,k.old _ _ g λm=>n (hS q m)⟩
theorem FL.len{N:List Addr}{H:Hp}{ys:List V}{F:List (List Str)}(h:FL N H ys F):ys.length=F.length:=Au h
theorem FL.get:∀{N:List Addr}{H:Hp}{ys:List V}{F:List (List Str)}{i:Nat},FL N H ys F->i<F.length->∃q,ys[i]?=some (.ref q)/\q∉N/\H q=some (.lst ((F.getD i []).map V.str))
 |_,_,_,_,0,.cons ⟨q,e,n,g⟩ _,_=>⟨q,by rw[e];rfl,n,g⟩
 |_,_,_,_,i+1,.cons _ p,h=>by
  obtain⟨q,e,g⟩:=FL.get p (i:=i) (by simpa using h)
  exact⟨q,e,g⟩
def spNO:Sp:=λvs H Q _=>∃(a n:Addr)(r:RS)(N:List Addr)(ys:List V)(F:List (List Str))(rs:List RS)(zs:List Str),vs=[.ref a,.ref n]/\H a=some (.tup (rowV r))/\H n=some (.lst ys)/\FL N H ys F/\CF zs F rs/\r.ok zs rs.length/\zs.length<=26 /\
 ∀p l H',H p=none->Kp [] H H'->H' p=some (.lst (l.map V.str))->Cn l (fm F r)->Q (.ref p) H'
structure TNO(mg:Str->Option Value):Prop where
 n_sorted:mg "sorted"=none
 n_set:mg "set"=none
theorem w_na:∀t:Fin 8,inV (.str (hdw t)) [.str "not",.str "and",.str "or"]=true->t=3\/t=4\/t=5:=by decide +kernel
def st1:RS->List Str
 |.is x _=>[x]
 |.ahead x _=>[x]
 |_=>[]
def st2:RS->List Str
 |.is x _=>[x]
 |.ahead x y=>[x,y]
 |_=>[]
def st3(F:List (List Str)):RS->List Str
 |.is x _=>[x]
 |.ahead x y=>[x,y]
 |.no i=>F.getD i []
 |.bin _ i j=>F.getD i []++F.getD j []
 |_=>[]
theorem w_so:∀t:Fin 8,hdw t=Str.ofString "some"->t=6:=by decide +kernel
theorem w_ea:∀t:Fin 8,hdw t=Str.ofString "each"->t=7:=by decide +kernel
theorem jgd{r:RS}(h:hd r=Str.ofString "some"):∃b x i,r=.qn b x i:=by
 have q:=w_so _ h
 cases r with
 |qn b x i=>exact⟨b,x,i,rfl⟩
 |bin b=>cases b <;> cases q
 |_=>cases q
theorem jgc{r:RS}(h:hd r=Str.ofString "each"):∃b x i,r=.qn b x i:=by
 have q:=w_ea _ h
 cases r with
 |qn b x i=>exact⟨b,x,i,rfl⟩
 |bin b=>cases b <;> cases q
 |_=>cases q
theorem jqg{F:List (List Str)}{r:RS}(h:inV (.str (hd r)) [.str "not",.str "and",.str "or"]=true):(st2 r=[]/\st3 F r=rb F (pts r))/\¬(HT.sIx (rowV r).length 0 (some 1)=0/\HT.sIx (rowV r).length (rowV r).length none=(rowV r).length)/\cutV (rowV r) (some 1) none=(pts r).map λi:Nat=>V.int (i:Int):=by
 have q:=w_na _ h
 cases r with
 |no i=>exact⟨⟨rfl,by simp[st3,rb,pts]⟩,λh=>absurd h.1 (show ¬HT.sIx 2 0 (some 1)=0 by decide),rfl⟩
 |bin b i j=>exact⟨⟨rfl,by simp[st3,rb,pts]⟩,λh=>absurd h.1 (show ¬HT.sIx 3 0 (some 1)=0 by decide),rfl⟩
 |qn b=>cases b <;> (rcases q with q|q|q <;> cases q)
 |_=>rcases q with q|q|q <;> cases q
section
variable{P:Program}{w:World}{K:PySem.W.Frag}{mg:Str->Option Value}{base:Heap}
abbrev kx:Stmt:=top 22
theorem yg:FnScope ["_law_row","_law_frees_here","_law_some","_law_part"] ["_law_row","_law_frees_here"] (jh kx):=⟨rfl,rfl,rfl,by decide +kernel,rfl,by decide +kernel,by decide +kernel⟩
theorem ok__law_names_of{f:Addr}{fd:FuncData}(F:Fun K "_law_names_of" "_law_names_of" kx f fd)(T:TNO mg):FnOk P w K mg base CX0 1 f fd ["_law_row","_law_frees_here"] spNO:=by
 refine F.ok yg (λvs H Q E h=>?_) (λcdv A outer s H vs Q E hr h=>?_)
 ·obtain⟨a,n,r,N,ys,G,rs,zs,rfl,_⟩:=h
  rfl
 ·obtain⟨a,n,r,N,ys,G,rs,zs,rfl,ha,hn,fl,cf,ok,hz,k⟩:=h
  have hu:=hr.units
  have hsz:sizeLine=16777216:=Aq
  have hlen:=cf.len
  have hyl:=fl.len
  refine⟨_,(QSs.h (jg (jl (i:=2) yg.nd rfl (by first|exact Or.inl rfl|exact Or.inr rfl) (j5 jc))
  (jz (j0 (QW.pt (jal (jn (j3 hu) (jk ix_U (qpv 0) jf (λ_ _=>rfl)) jm (jr _)) (z8 (jn (j3 hu) (jk ix_U (qpv 0) jf (λ_ _=>rfl)) jm (jr _))))) (ji (jl (i:=2) yg.nd rfl (by first|exact Or.inl rfl|exact Or.inr rfl) (j5 (ja (jk ix_U (qpv 0) jf (λ_ _=>rfl)) jc)))) ju)
  (jz (j0 (jn (j3 hu) (jk ix_U (qpv 0) jf (λ_ _=>rfl)) jm (jr _)) (ji (jl (i:=2) yg.nd rfl (by first|exact Or.inl rfl|exact Or.inr rfl) (j5 (ja (jk ix_U (qpv 0) jf (λ_ _=>rfl)) (ja (jk ix_U (qpv 0) jf (λ_ _=>rfl)) jc))))) ju)
  (jz (j0 (jn (ja1 (K:=K) rfl) (jk ix_U (qpv 0) jf (λ_ _=>rfl)) (j9 (ja jm (ja jm (ja jm jc)))) (by with_unfolding_all rfl)) (ji (yp Iv rfl (kf (K:=K) (zu (ja8 (K:=K) rfl) (qpv 0) (zv jf) z7) rfl) (jt (i:=3) yg.nd rfl (by first|exact Or.inl rfl|exact Or.inr rfl)) (ji (jl (i:=2) yg.nd rfl (by first|exact Or.inl rfl|exact Or.inr rfl) (jq j8 (qpv 2) (jk ix_U (qpv 1) (qpv 3) (λ_ _=>rfl))))))) ju)
  (jz (j0 (QW.pt (jal (jn (j3 hu) (jk ix_U (qpv 0) jf (λ_ _=>rfl)) jm (jr _)) (z8 (jn (j3 hu) (jk ix_U (qpv 0) jf (λ_ _=>rfl)) jm (jr _))))) (ji (jbe (i:=2) yg.nd rfl (by first|exact Or.inl rfl|exact Or.inr rfl) rfl (jch (sc:=jh kx) (N:=["_law_row","_law_frees_here","_law_some","_law_part"]) (Nc:=["_law_name","_law_row"]) (js:=[none,some 0]) (by decide +kernel)) (kf (K:=K) (jk ix_U (qpv 1) (jk ix_U (qpv 0) jf (λ_ _=>rfl)) (λ_ _=>rfl)) rfl) (λ_ _ _ _=>(jt (i:=0) (show List.Nodup [("_law_name":Str),("_law_row":Str)]from by decide +kernel) rfl (by first|exact Or.inl rfl|exact Or.inr rfl))) (λ_ _ _ _=>(jn (jbr hu) (qpv 0) (jk ix_U (qpv 1) jf (λ_ _=>rfl)) (jr _))) (λ_ _ _ _=>(qpv 0)))) ju)
  (ji (jp (jad rfl rfl T.n_sorted rfl T.n_set (qpv 2)))))))))),?_⟩
  simp!
  refine⟨by omega,λp hp=>?_⟩
  have k0:Kp [] H (upd H p (.lst [])):=(Kp.refl [] H).new hp
  have ha0:upd H p (.lst []) a=some (.tup (rowV r)):=by rw[jd (je ha hp)];exact ha
  refine⟨λσ H'=>∃(q:Addr),σ=[some (.ref a),some (.ref n),some (.ref q),none]/\Kp [] H H'/\H' q=some (.lst ((st1 r).map V.str)),?_,?_⟩
  ·simp! [ha0]
   refine⟨_,jcq r,?_⟩
   simp! [ha0]
   refine ite2 (λe=>?_) (λe1=>⟨_,jcq r,?_⟩)
   ·obtain⟨x,c,rfl⟩:=jhr e
    exact⟨_,jcg (by decide) rfl,by omega,λq hq=>⟨k0.new hq,rfl⟩⟩
   simp! [ha0]
   refine ite2 (λe=>?_) (λe2=>⟨k0,?_⟩)
   ·obtain⟨x,y,rfl⟩:=jdr e
    exact⟨_,jcg (by decide) rfl,by omega,λq hq=>⟨k0.new hq,rfl⟩⟩
   cases r with
   |is=>exact absurd rfl e1
   |ahead=>exact absurd rfl e2
   |_=>rfl
  rintro _ H1 ⟨p1,rfl,k1,e1⟩
  have ha1:=k1.tup _ _ ha
  refine⟨λσ H'=>∃(q:Addr),σ=[some (.ref a),some (.ref n),some (.ref q),none]/\Kp [] H H'/\H' q=some (.lst ((st2 r).map V.str)),?_,?_⟩
  ·simp! [ha1]
   refine⟨_,jcq r,?_⟩
   simp! [ha1]
   refine ite2 (λe=>?_) (λe2=>⟨k1,?_⟩)
   ·obtain⟨x,y,rfl⟩:=jdr e
    exact⟨_,jcg (by decide) rfl,_,jcg (by decide) rfl,by omega,λq hq=>⟨k1.new hq,rfl⟩⟩
   rw[e1]
   cases r with
   |ahead=>exact absurd rfl e2
   |_=>rfl
  rintro _ H2 ⟨p2,rfl,k2,e2⟩
  have ha2:=k2.tup _ _ ha
  refine⟨λσ H'=>∃(q:Addr)(v:Option V),σ=[some (.ref a),some (.ref n),some (.ref q),v]/\Kp [] H H'/\H' q=some (.lst ((st3 G r).map V.str)),?_,?_⟩
  ·simp! [ha2]
   refine⟨_,jcq r,by omega,λt ht=>?_⟩
   refine rInU.tupS (.of jb) rfl rfl ⟨_,rfl,?_⟩
   rw[show(if false=true then !inV (.str (hd r)) [.str "not",.str "and",.str "or"]else inV (.str (hd r)) [.str "not",.str "and",.str "or"])=inV (.str (hd r)) [.str "not",.str "and",.str "or"]from rfl]
   have k2':=k2.new (o:=.tup [.str "not",.str "and",.str "or"]) ht
   have e2':upd H2 t (.tup [.str "not",.str "and",.str "or"]) p2=some (.lst ((st2 r).map V.str)):=by rw[jd (je e2 ht)];exact e2
   refine ite2 (λe=>?_) (λe=>⟨p2,none,⟨rfl,rfl⟩,k2',?_⟩)
   ·obtain⟨h2,hcut⟩:=jqg (F:=G) e
    refine rSlU.tup (k2'.tup _ _ ha) hcut.1 λq hq=>?_
    rw[hcut.2]
    have k3:=k2'.new (o:=.tup ((pts r).map λi:Nat=>V.int (i:Int))) hq
    have e3:upd (upd H2 t (.tup [.str "not",.str "and",.str "or"])) q (.tup ((pts r).map λi:Nat=>V.int (i:Int))) p2=some (.lst ((rb G ((pts r).take 0)).map V.str)):=by rw[jd (je e2' hq),e2',h2.1];rfl
    have et:upd (upd H2 t (.tup [.str "not",.str "and",.str "or"])) q (.tup ((pts r).map λi:Nat=>V.int (i:Int))) q=some (.tup ((pts r).map λi:Nat=>V.int (i:Int))):=jb
    generalize upd (upd H2 t (.tup [.str "not",.str "and",.str "or"])) q (.tup ((pts r).map λi:Nat=>V.int (i:Int)))=H3 at k3 e3 et⊢
    simp only[et]
    have pl2:=jb6 r
    refine jds (xs:=(pts r).map λi:Nat=>V.int (i:Int)) (λi σ H'=>∃(z:Addr)(v:Option V),σ=[some (.ref a),some (.ref n),some (.ref z),v]/\Kp [] H H'/\Kp [] H3 H'/\H' z=some (.lst ((rb G ((pts r).take i)).map V.str))) ?_ ?_ ?_ ?_
    ·exact⟨p2,none,rfl,k3,Kp.refl [] H3,e3⟩
    ·rintro i σ H' _ ⟨z,v,rfl,_,kk,_⟩
     exact kk.tup _ _ et
    ·rintro i x σ H4 hx ⟨z,v,rfl,k4,kk,e4⟩
     rw[Ax]at hx
     obtain⟨j,hj,rfl⟩:∃j:Nat,(pts r)[i]?=some j/\x=.int (j:Int):=by
      cases e:(pts r)[i]? with
      |none=>rw[e]at hx;cases hx
      |some j=>rw[e]at hx;exact⟨j,rfl,(Av hx).symm⟩
     have hjk:j<G.length:=by rw[hlen];exact jbb ok j (A6 hj)
     obtain⟨fq,hq1,nq,hq2⟩:=fl.get hjk
     have hn4:=k4.old _ _ hn Ae
     have hq4:=k4.old _ _ hq2 Ae
     have hil:i<(pts r).length:=(Ag.mp hj).1
     have rl:=ji9 cf hz ((pts r).take i) (by rw[A5];omega)
     have gl:=cf.le j
     simp! [hn4]
     refine⟨_,jcm hq1,?_⟩
     refine rAddW.lst e4 hq4 (by rw[Ad,Ad];omega) λz' hz'=>⟨z',_,⟨rfl,rfl⟩,k4.new hz',kk.new hz',?_⟩
     rw[jb,O2,hj,<-I0]
     show some (HO.lst ((rb G ((pts r).take i)++G.getD j []).map V.str))=some (.lst ((rb G ((pts r).take i++[j])).map V.str))
     rw[jkj]
    ·rintro σ H4 ⟨z,v,rfl,k4,_,e4⟩
     rw[Ad,Oh,<-h2.2]at e4
     exact⟨z,v,rfl,k4,e4⟩
   ·rw[e2']
    cases r with
    |no=>exact absurd rfl e
    |bin b=>cases b <;> exact absurd (by rfl) e
    |_=>rfl
  rintro _ H3 ⟨p3,v,rfl,k3,e3⟩
  have ha3:=k3.tup _ _ ha
  refine⟨λσ H'=>∃(q:Addr)(v:Option V),σ=[some (.ref a),some (.ref n),some (.ref q),v]/\Kp [] H H'/\H' q=some (.lst ((fm G r).map V.str)),?_,?_⟩
  ·simp! [ha3]
   refine⟨_,jcq r,?_⟩
   simp! [ha3]
   refine ite2 (λe=>?_) (λf1=>⟨_,jcq r,?_⟩)
   ·obtain⟨bb,x,i,rfl⟩:=jgd e
    have okq:i<rs.length:=ok.2
    obtain⟨fq,hq1,nq,hq2⟩:=fl.get (i:=i) (by omega)
    have hn3:=k3.old _ _ hn Ae
    have hq3:=k3.old _ _ hq2 Ae
    refine⟨_,jcg (by decide) rfl,?_⟩
    simp! [hn3]
    refine⟨_,jcm hq1,?_⟩
    simp only[hq3]
    intro D hD
    have ad:a≠D:=je ha3 hD
    have gl:=cf.le i
    refine jdy (λv=>match v with|.str y=>!decide (y=x)|_=>false) id hq3 hD (by rw[Ad];omega) (λu hu l Q' q=>?_) (λu hu _ l Q' q=>?_) λv'=>?_
    ·obtain⟨y,hy,rfl⟩:=Ay.mp hu
     have ha4:upd H3 D (.lst l) a=some (.tup (rowV (.qn bb x i))):=by rw[jd ad];exact ha3
     simp! [ha4]
     exact⟨_,jcg (by decide) rfl,_,rfl,q⟩
    ·simp!
     exact q
    ·refine⟨D,v,⟨rfl,rfl⟩,k3.new hD,?_⟩
     rw[jb,List.map_id,List.filter_map]
     rfl
   simp! [ha3]
   refine ite2 (λe=>?_) (λf2=>⟨p3,v,⟨rfl,rfl⟩,k3,?_⟩)
   ·obtain⟨bb,x,i,rfl⟩:=jgc e
    have okq:i<rs.length:=ok.2
    obtain⟨fq,hq1,nq,hq2⟩:=fl.get (i:=i) (by omega)
    have hn3:=k3.old _ _ hn Ae
    have hq3:=k3.old _ _ hq2 Ae
    refine⟨_,jcg (by decide) rfl,?_⟩
    simp! [hn3]
    refine⟨_,jcm hq1,?_⟩
    simp only[hq3]
    intro D hD
    have ad:a≠D:=je ha3 hD
    have gl:=cf.le i
    refine jdy (λv=>match v with|.str y=>!decide (y=x)|_=>false) id hq3 hD (by rw[Ad];omega) (λu hu l Q' q=>?_) (λu hu _ l Q' q=>?_) λv'=>?_
    ·obtain⟨y,hy,rfl⟩:=Ay.mp hu
     have ha4:upd H3 D (.lst l) a=some (.tup (rowV (.qn bb x i))):=by rw[jd ad];exact ha3
     simp! [ha4]
     exact⟨_,jcg (by decide) rfl,_,rfl,q⟩
    ·simp!
     exact q
    ·refine⟨D,v,⟨rfl,rfl⟩,k3.new hD,?_⟩
     rw[jb,List.map_id,List.filter_map]
     rfl
   rw[e3]
   cases r with
   |qn b=>cases b <;> first|exact absurd rfl f2|exact absurd rfl f1
   |_=>rfl
  rintro _ H4 ⟨p4,v,rfl,k4,e4⟩
  simp! [e4]
  have fl52:=jmb cf hz r
  exact⟨fm G r,rfl,by omega,λp' ss hp' so nd me=>k p' ss _ (k4.free hp') (k4.new hp') jb ⟨so,nd,me⟩⟩
end
def SQ(H:Hp)(a:Addr)(us:List V):Prop:=H a=some (.lst us)\/H a=some (.tup us)
def spFs:Sp:=λvs H Q _=>∃(a:Addr)(us:List V)(rs:List RS)(zs:List Str)(N:List Addr),vs=[.ref a]/\SQ H a us/\RowsAt H us rs/\okR zs rs/\zs.length<=26/\rs.length<=100/\(∀x∈N,∃o,H x=some o) /\
 ∀p ys F H',H p=none->Kp [] H H'->H' p=some (.lst ys)->FL (p::N) H' ys F->CF zs F rs->Q (.ref p) H'
structure TFs(mg:Str->Option Value)(fr:Addr):Prop where
 m3z:mg "_law_names_of"=some (.ref fr)
def spDp:Sp:=λvs H Q _=>∃(a n:Addr)(r:RS)(D:List Nat)(zs:List Str),vs=[.ref a,.ref n]/\H a=some (.tup (rowV r))/\H n=some (.lst (D.map λn:Nat=>V.int (n:Int)))/\r.ok zs D.length /\
 ∀H',Kp [] H H'->Q (.int (dp D r:Nat)) H'
structure TDp(mg:Str->Option Value):Prop where
 n_max:mg "max"=none
theorem jfk{D:List Nat}{i:Nat}(h:i<D.length):(D.map λn:Nat=>V.int (n:Int))[i]?=some (.int ((D.getD i 0:Nat):Int)):=by
 rw[Ax,Ak,Am h];rfl
theorem w_ba:∀t:Fin 8,inV (.str (hdw t)) [.str "yes",.str "is",.str "ahead"]=true->t=0\/t=1\/t=2:=by decide +kernel
theorem jov{D:List Nat}{r:RS}(h:inV (.str (hd r)) [.str "yes",.str "is",.str "ahead"]=true):dp D r=0:=by
 have q:=w_ba _ h
 cases r with
 |no i=>rcases q with q|q|q <;> cases q
 |bin b=>cases b <;> (rcases q with q|q|q <;> cases q)
 |qn b=>cases b <;> (rcases q with q|q|q <;> cases q)
 |_=>rfl
section
variable{P:Program}{w:World}{K:PySem.W.Frag}{mg:Str->Option Value}{base:Heap}
abbrev yk:Stmt:=top 23
theorem jae:FnScope ["_law_saying","_law_frees_here","_law_row"] ["_law_saying"] (jh yk):=⟨rfl,rfl,rfl,by decide +kernel,rfl,by decide +kernel,by decide +kernel⟩
theorem ok__law_frees{f fr:Addr}{fd fdr:FuncData}(F:Fun K "_law_frees" "_law_frees" yk f fd)(T:TFs mg fr)(F3z:Fun K "_law_names_of" "_law_names_of" kx fr fdr)(b3z:Binds K fdr ["_law_row","_law_frees_here"] [])
  (G3z:FnOk P w K mg base CX0 1 fr fdr ["_law_row","_law_frees_here"] spNO):FnOk P w K mg base CX0 2 f fd ["_law_saying"] spFs:=by
 refine F.ok jae (λvs H Q E h=>?_) (λcdv A outer s H vs Q E hr h=>?_)
 ·obtain⟨a,us,rs,zs,N,rfl,_⟩:=h
  rfl
 ·obtain⟨a,us,rs,zs,N,rfl,ha,ra,ok,hz,hl,hN,k⟩:=h
  have hu:=hr.units
  have hsz:sizeLine=16777216:=Aq
  have hul:us.length=rs.length:=Au ra
  refine⟨_,(QSs.h (jg (jl (i:=1) jae.nd rfl (by first|exact Or.inl rfl|exact Or.inr rfl) (j5 jc))
  (jg (yp Iv rfl (kf (K:=K) (qpv 0) rfl) (jt (i:=2) jae.nd rfl (by first|exact Or.inl rfl|exact Or.inr rfl)) (ji (ky (yh A7 A8 ku (qpv 1) (ja (jj G3z (hr.mono (by decide)) rfl T.m3z F3z.kp b3z .nil jo (ja (qpv 2) (ja (qpv 1) jc))) jc) jcl))))
  (ji (jp (qpv 1)))))),?_⟩
  simp!
  refine⟨by omega,λnm hnm=>?_⟩
  let I:Nat->List (Option V)->Hp->Prop:=λi σ H'=>∃(v:Option V)(ys:List V)(G:List (List Str)),σ=[some (.ref a),some (.ref nm),v]/\Kp [] H H'/\H' nm=some (.lst ys)/\FL (nm::N) H' ys G/\CF zs G (rs.take i)
  have i0:I 0 [some (.ref a),some (.ref nm),none] (upd H nm (.lst [])):=⟨none,[],[],rfl,(Kp.refl [] H).new hnm,jb,.nil,CF.nil zs⟩
  have st:∀(i:Nat)(r:RS)(c:Addr)(v:Option V)(ys:List V)(G:List (List Str))(H1:Hp),rs[i]?=some r->H c=some (.tup (rowV r))->Kp [] H H1->H1 nm=some (.lst ys)->FL (nm::N) H1 ys G->CF zs G (rs.take i) ->
    spNO [.ref c,.ref nm] H1 (λx H'=>(∃xs,jcu (H' nm)=some xs/\xs.length<sizeLine/\I (i+1) [some (.ref a),some (.ref nm),some (.ref c)] (upd H' nm (.lst (xs++[x]))))) E0:=by
   intro i r c v ys G H1 hri hc k1 e1 fl cf
   have hi:i<rs.length:=(Ag.mp hri).1
   have hl1:(rs.take i).length=i:=by rw[A5];omega
   have okr:=ok i r hri
   have hyl:=fl.len
   have hG:=cf.len
   refine⟨c,nm,r,nm::N,ys,G,rs.take i,zs,rfl,k1.tup _ _ hc,e1,fl,cf,by rw[hl1];exact okr,hz,λq l H2 hq k2 e2 cn=>?_⟩
   have e12:=k2.old _ _ e1 Ae
   have kL:Kp [nm] H2 (upd H2 nm (.lst (ys++[.ref q]))):=(Kp.refl [nm] H2).set e12 (.inl (.head _))
   have qn:q≠nm:=λe=>by rw[e,e1]at hq;cases hq
   refine⟨ys,by rw[e12];rfl,by omega,some (.ref c),ys++[.ref q],G++[l],rfl,(k1.trans k2).set e12 (.inr hnm),jb,?_,?_⟩
   ·refine O9 (FL.kp (S:=[nm]) (by simp) kL (FL.kp (S:=[]) (by simp) k2 fl)) ⟨q,rfl,λhm=>?_,by rw[jd qn];exact e2⟩
    rcases Ar.mp hm with e|hm
    ·exact qn e
    ·obtain⟨o,ho⟩:=hN q hm
     rw[k1.old _ _ ho Ae]at hq
     cases hq
   ·rw[jcp hri]
    exact cf.snoc (ok.take i) (by rw[hl1];exact okr) cn
  have ed:∀σ H1,I us.length σ H1->Q (.ref nm) H1:=by
   rintro σ H1 ⟨v,ys,G,rfl,k1,e1,fl,cf⟩
   rw[hul,Oh]at cf
   exact k nm ys G H1 hnm k1 e1 fl cf
  rcases ha with ha|ha
  ·have a0:upd H nm (.lst []) a=some (.lst us):=by rw[jd (je ha hnm)];exact ha
   simp only[a0]
   refine jcs (xs:=us) I i0 ?_ ?_ ?_
   ·rintro i σ H' _ ⟨v,ys,G,rfl,kp,_⟩
    exact kp.old _ _ ha Ae
   ·rintro i x σ H1 hx ⟨v,ys,G,rfl,k1,e1,fl,cf⟩
    obtain⟨r,c,hri,rfl,hc⟩:=ra.get hx
    simp!
    refine⟨by rw[e1];rfl,?_⟩
    exact st i r c v ys G H1 hri hc k1 e1 fl cf
   ·rintro σ H1 hI
    have:=ed σ H1 hI
    obtain⟨v,ys,G,rfl,_⟩:=hI
    simp!
    exact this
  ·have a0:upd H nm (.lst []) a=some (.tup us):=by rw[jd (je ha hnm)];exact ha
   simp only[a0]
   refine jds (xs:=us) I i0 ?_ ?_ ?_
   ·rintro i σ H' _ ⟨v,ys,G,rfl,kp,_⟩
    exact kp.tup _ _ ha
   ·rintro i x σ H1 hx ⟨v,ys,G,rfl,k1,e1,fl,cf⟩
    obtain⟨r,c,hri,rfl,hc⟩:=ra.get hx
    simp!
    refine⟨by rw[e1];rfl,?_⟩
    exact st i r c v ys G H1 hri hc k1 e1 fl cf
   ·rintro σ H1 hI
    have:=ed σ H1 hI
    obtain⟨v,ys,G,rfl,_⟩:=hI
    simp!
    exact this
abbrev yz:Stmt:=top 24
theorem sc__law_deep:FnScope ["_law_row","_law_depths"] ["_law_row","_law_depths"] (jh yz):=⟨rfl,rfl,rfl,by decide +kernel,rfl,by decide +kernel,by decide +kernel⟩
theorem ok__law_deep{f:Addr}{fd:FuncData}(F:Fun K "_law_deep" "_law_deep" yz f fd)(T:TDp mg):FnOk P w K mg base CX0 1 f fd ["_law_row","_law_depths"] spDp:=by
 refine F.ok sc__law_deep (λvs H Q E h=>?_) (λcdv A outer s H vs Q E hr h=>?_)
 ·obtain⟨a,n,r,D,zs,rfl,_⟩:=h
  rfl
 ·obtain⟨a,n,r,D,zs,rfl,ha,hn,ok,k⟩:=h
  have hu:=hr.units
  have hsz:sizeLine=16777216:=Aq
  refine⟨_,(QSs.h (jz (j0 (jn (ja1 (K:=K) rfl) (jk ix_U (qpv 0) jf (λ_ _=>rfl)) (j9 (ja jm (ja jm (ja jm jc)))) (by with_unfolding_all rfl)) (ji (jp jf)) ju)
  (jz (j0 (QW.pt (jal (jn (j3 hu) (jk ix_U (qpv 0) jf (λ_ _=>rfl)) jm (jr _)) (z8 (jn (j3 hu) (jk ix_U (qpv 0) jf (λ_ _=>rfl)) jm (jr _))))) (ji (jp (jq j8 (jk ix_U (qpv 1) (jk ix_U (qpv 0) jf (λ_ _=>rfl)) (λ_ _=>rfl)) jf))) ju)
  (ji (jp (jv (call_maxL rfl) (by rfl) T.n_max bt_max (ja (yc rfl (jch (sc:=jh yz) (N:=["_law_row","_law_depths"]) (Nc:=["_law_part","_law_depths"]) (js:=[none,some 1]) (by decide +kernel)) (kf (K:=K) (zu (ja8 (K:=K) rfl) (qpv 0) (zv jf) z7) rfl) (λ_ _ _ _=>(jt (i:=0) (show List.Nodup [("_law_part":Str),("_law_depths":Str)]from by decide +kernel) rfl (by first|exact Or.inl rfl|exact Or.inr rfl))) (λ_ _ _ _=>(jk ix_U (qpv 1) (qpv 0) (λ_ _=>rfl)))) jc))))))),?_⟩
  refine⟨λσ H'=>[some (.ref a),some (.ref n)]=σ/\Kp [] H H'/\inV (.str (hd r)) [.str "yes",.str "is",.str "ahead"]≠true,?_,?_⟩
  ·simp! [ha]
   refine⟨_,jcq r,by omega,λt ht=>?_⟩
   refine rInU.tupS (.of jb) rfl rfl ⟨_,rfl,?_⟩
   rw[show(if false=true then !inV (.str (hd r)) [.str "yes",.str "is",.str "ahead"]else inV (.str (hd r)) [.str "yes",.str "is",.str "ahead"])=inV (.str (hd r)) [.str "yes",.str "is",.str "ahead"]from rfl]
   refine ite2 (λe=>?_) (λe=>⟨(Kp.refl [] H).new ht,e⟩)
   have:=k _ ((Kp.refl [] H).new (o:=.tup [.str "yes",.str "is",.str "ahead"]) ht)
   rw[jov (D:=D) e]at this
   exact this
  rintro _ H1 ⟨rfl,k1,b1⟩
  have ha1:=k1.tup _ _ ha
  have hn1:=k1.old _ _ hn Ae
  refine⟨λσ H'=>[some (.ref a),some (.ref n)]=σ/\Kp [] H H'/\(∃c i j,r=.bin c i j)\/[some (.ref a),some (.ref n)]=σ/\Kp [] H H'/\(∃i,r=.no i),?_,?_⟩
  ·simp! [ha1]
   refine⟨_,jcq r,?_⟩
   simp! [ha1]
   refine ite2 (λe=>?_) (λf1=>⟨_,jcq r,?_⟩)
   ·obtain⟨bb,x,i,rfl⟩:=jgd e
    have okq:i<D.length:=ok.2
    refine⟨_,jcg (by decide) rfl,?_⟩
    simp! [hn1]
    refine⟨_,jcm (jfk okq),?_⟩
    simp!
    have:=k _ k1
    rw[show((dp D (.qn bb x i):Nat):Int)=((D.getD i 0:Nat):Int)+1 by simp[dp]]at this
    exact this
   simp! [ha1]
   refine ite2 (λe=>?_) (λf2=>?_)
   ·obtain⟨bb,x,i,rfl⟩:=jgc e
    have okq:i<D.length:=ok.2
    refine⟨_,jcg (by decide) rfl,?_⟩
    simp! [hn1]
    refine⟨_,jcm (jfk okq),?_⟩
    simp!
    have:=k _ k1
    rw[show((dp D (.qn bb x i):Nat):Int)=((D.getD i 0:Nat):Int)+1 by simp[dp]]at this
    exact this
   cases r with
   |no i=>exact .inr ⟨k1,i,rfl⟩
   |bin b i j=>exact .inl ⟨k1,b,i,j,rfl⟩
   |qn b=>cases b <;> first|exact absurd rfl f2|exact absurd rfl f1
   |_=>exact absurd rfl b1
  rintro _ H2 (⟨rfl,k2,b,i,j,rfl⟩|⟨rfl,k2,i,rfl⟩)
  ·have ha2:=k2.tup _ _ ha
   have hn2:=k2.old _ _ hn Ae
   simp!
   refine rSlU.tup ha2 (λh=>absurd h.1 (show ¬HT.sIx 3 0 (some 1)=0 by decide)) λq hq=>?_
   rw[show cutV (rowV (.bin b i j)) (some 1) none=[i,j].map λi:Nat=>V.int (i:Int)from rfl]
   have k3:=k2.new (o:=.tup ([i,j].map λi:Nat=>V.int (i:Int))) hq
   have et:upd H2 q (.tup ([i,j].map λi:Nat=>V.int (i:Int))) q=some (.tup ([i,j].map λi:Nat=>V.int (i:Int))):=jb
   have hn3:=k3.old _ _ hn Ae
   generalize upd H2 q (.tup ([i,j].map λi:Nat=>V.int (i:Int)))=H3 at k3 et hn3⊢
   simp only[et]
   intro Z hZ
   have nZ:n≠Z:=je hn3 hZ
   refine jih (λv=>match v with|.int t=>.int ((D.getD t.toNat 0:Nat):Int)|_=>.non) et hZ (by simp;omega) (λu hu l Q' q=>?_) λv'=>?_
   ·obtain⟨m,hm,rfl⟩:=Ay.mp hu
    have hm':m<D.length:=jbb ok m hm
    have hn4:upd H3 Z (.lst l) n=some (.lst (D.map λn:Nat=>V.int (n:Int))):=by rw[jd nZ];exact hn3
    simp! [hn4]
    exact⟨_,jcm (jfk hm'),q⟩
   ·refine⟨((D.getD i 0:Nat):Int),[((D.getD j 0:Nat):Int)],by rw[jb];rfl,?_⟩
    have:=k _ (k3.new (o:=.lst ([i,j].map (λi:Nat=>V.int (i:Int)) |>.map λv=>match v with|.int t=>.int ((D.getD t.toNat 0:Nat):Int)|_=>.non)) hZ)
    rw[show((dp D (.bin b i j):Nat):Int)=maxL ((D.getD i 0:Nat):Int) [((D.getD j 0:Nat):Int)]by simp only[dp,maxL];split <;> omega]at this
    exact this
  ·have ha2:=k2.tup _ _ ha
   have hn2:=k2.old _ _ hn Ae
   simp!
   refine rSlU.tup ha2 (λh=>absurd h.1 (show ¬HT.sIx 2 0 (some 1)=0 by decide)) λq hq=>?_
   rw[show cutV (rowV (.no i)) (some 1) none=[i].map λi:Nat=>V.int (i:Int)from rfl]
   have k3:=k2.new (o:=.tup ([i].map λi:Nat=>V.int (i:Int))) hq
   have et:upd H2 q (.tup ([i].map λi:Nat=>V.int (i:Int))) q=some (.tup ([i].map λi:Nat=>V.int (i:Int))):=jb
   have hn3:=k3.old _ _ hn Ae
   generalize upd H2 q (.tup ([i].map λi:Nat=>V.int (i:Int)))=H3 at k3 et hn3⊢
   simp only[et]
   intro Z hZ
   have nZ:n≠Z:=je hn3 hZ
   refine jih (λv=>match v with|.int t=>.int ((D.getD t.toNat 0:Nat):Int)|_=>.non) et hZ (by simp;omega) (λu hu l Q' q=>?_) λv'=>?_
   ·obtain⟨m,hm,rfl⟩:=Ay.mp hu
    have hm':m<D.length:=jbb ok m hm
    have hn4:upd H3 Z (.lst l) n=some (.lst (D.map λn:Nat=>V.int (n:Int))):=by rw[jd nZ];exact hn3
    simp! [hn4]
    exact⟨_,jcm (jfk hm'),q⟩
   ·refine⟨((D.getD i 0:Nat):Int),[],by rw[jb];rfl,?_⟩
    have:=k _ (k3.new (o:=.lst ([i].map (λi:Nat=>V.int (i:Int)) |>.map λv=>match v with|.int t=>.int ((D.getD t.toNat 0:Nat):Int)|_=>.non)) hZ)
    exact this
end
def Le3(zs:List Str)(rs:List RS):Prop:=∀m F,CF zs F (rs.take m)->∀k,(F.getD k []).length<=3
theorem Le3.nil(zs:List Str):Le3 zs []:=λm F h k=>by
 have:=h.len
 rw[List.take_nil,List.length_nil]at this
 rw[Ud.mp this];simp
theorem Le3.all{zs:List Str}{rs:List RS}(h:Le3 zs rs){F:List (List Str)}(c:CF zs F rs)(k:Nat):(F.getD k []).length<=3:=h rs.length F (by rw[Oh];exact c) k
theorem Le3.take{zs:List Str}{rs:List RS}(h:Le3 zs rs)(m:Nat):Le3 zs (rs.take m):=λn F c=>h (min n m) F (by rw[List.take_take]at c;exact c)
theorem Le3.snoc{zs:List Str}{rs:List RS}{r:RS}(h:Le3 zs rs)(ok:okR zs (rs++[r]))(hr:∀F,CF zs F rs->∀l,Cn l (fm F r)->l.length<=3):Le3 zs (rs++[r]):=λm F c k=>by
 by_cases hm:m<=rs.length
 ·rw[List.take_append_of_le_length hm]at c
  exact h m F c k
 ·rw[Iq (by simp;omega)]at c
  have c1:=c.take ok rs.length (by simp)
  rw[List.take_left]at c1
  have gt:∀i,i<rs.length->(F.take rs.length).getD i []=F.getD i []:=λi hi=>by
   rw[Ak,Ak,Uy,Ap hi]
  by_cases hk:k<rs.length
  ·rw[<-gt k hk];exact h.all c1 k
  ·by_cases hk2:k=rs.length
   ·have e:(rs++[r])[rs.length]?=some r:=by simp
    have:=c.at_ _ _ e
    rw[hk2]
    refine hr _ c1 _ ?_
    rw[jd1 (G:=F) gt (ok _ _ e)]
    exact this
   ·have:=c.len
    rw[Ak,Of (by simp at this;omega)]
    simp
theorem Cn.le3{l raw m:List Str}(h:Cn l raw)(s:∀x∈raw,x∈m)(hm:m.length<=3):l.length<=3:=Io (jd8 h.nd λx hx=>s x ((h.me x).mp hx)) hm
def spRo:Sp:=λvs H Q _=>∃(b p:Addr)(z:Str)(zs:List Str)(m:Nat)(dh:Nat)(o:HO),vs=[.ref b,.str z,.ref p,.int (m:Int),.int (dh:Int)]/\H b=some o/\BoxO o/\Letters z 4/\H p=some (.lst (zs.map V.str))/\1<=zs.length/\zs.length<=26/\1<=m/\m<=60/\b≠p /\
 ∀(q:Addr)(us:List V)(rs:List RS)(o':HO)(H':Hp),1<=rs.length->rs.length<=m->RowsAt H' us rs->okR zs rs->Le3 zs rs->H q=none->H' q=some (.lst us)->BoxO o'->H' b=some o'->Kp [b] H H'->Q (.ref q) H'
structure TRo(mg:Str->Option Value)(fs fn fd:Addr):Prop where
 n_len:mg "len"=none
 m18z:mg "_law_saying_rows"=some (.ref fs)
 m3z:mg "_law_names_of"=some (.ref fn)
 m10z:mg "_law_deep"=some (.ref fd)
structure IT(H:Hp)(b A B C q:Addr)(zs:List Str)(us0:List V)(rs0:List RS)(us:List V)(rs:List RS)(ys:List V)(G:List (List Str))(H':Hp):Prop where
 kp:Kp [b] H H'
 bx:∃o,BoxO o/\H' b=some o
 hq:H' q=some (.lst us0)
 r0:RowsAt H' us0 rs0
 hA:H' A=some (.lst us)
 ra:RowsAt H' us rs
 ok:okR zs rs
 l3:Le3 zs rs
 hB:H' B=some (.lst ys)
 fl:FL [A,B,C] H' ys G
 cf:CF zs G rs
 hC:H' C=some (.lst ((deps rs).map λn:Nat=>V.int (n:Int)))
theorem IT.mv{H:Hp}{b A B C q:Addr}{zs:List Str}{us0:List V}{rs0:List RS}{us:List V}{rs:List RS}{ys:List V}{G:List (List Str)}{H1 H2:Hp}(I:IT H b A B C q zs us0 rs0 us rs ys G H1)(k:Kp [] H1 H2):IT H b A B C q zs us0 rs0 us rs ys G H2 :=
 ⟨I.kp.trans (k.mono (by simp)),I.bx.imp λo h=>⟨h.1,k.old _ _ h.2 (by simp)⟩,k.old _ _ I.hq (by simp),I.r0.kp k,k.old _ _ I.hA (by simp),I.ra.kp k,I.ok,I.l3,k.old _ _ I.hB (by simp),I.fl.kp (by simp) k,I.cf,k.old _ _ I.hC (by simp)⟩
theorem IT.cn{H:Hp}{b A B C q:Addr}{zs:List Str}{us0:List V}{rs0:List RS}{us:List V}{rs:List RS}{ys:List V}{G:List (List Str)}{H1:Hp}(I:IT H b A B C q zs us0 rs0 us rs ys G H1){k:Nat}(h:k<rs.length):Cn (G.getD k []) (fm G (.no k)) :=
 let c:=I.cf.at_ k _ (Am h)
 ⟨c.so,c.nd,λ_=>Iff.rfl⟩
theorem fm0{F:List (List Str)}{D:List Nat}{zs:List Str}:∀{r:RS},r.ok zs 0->(fm F r).length<=2/\dp D r=0
 |.yes,_=>⟨by simp[fm],rfl⟩
 |.is _ _,_=>⟨by simp[fm],rfl⟩
 |.ahead _ _,_=>⟨by simp[fm],rfl⟩
 |.no i,ok=>absurd ok (Wh _)
 |.bin _ i j,ok=>absurd ok.1 (Wh _)
 |.qn _ _ i,ok=>absurd ok.2 (Wh _)
def spDb:Sp:=λvs H Q _=>∃(b p:Addr)(us:List V)(rs:List RS)(zs:List Str)(o:HO),vs=[.ref b,.ref p]/\H b=some o/\BoxO o/\H p=some (.tup us)/\RowsAt H us rs/\okR zs rs/\Le3 zs rs/\1<=rs.length/\rs.length<=60/\b≠p /\
 ∀(q:Addr)(us:List V)(rs:List RS)(o':HO)(H':Hp),rs.length=60->RowsAt H' us rs->okR zs rs->Le3 zs rs->H q=none->H' q=some (.tup us)->BoxO o'->H' b=some o'->Kp [b] H H'->Q (.ref q) H'
structure TDb(mg:Str->Option Value)(ft:Addr):Prop where
 n_list:mg "list"=none
 n_tuple:mg "tuple"=none
 n_len:mg "len"=none
 m0z:mg "_law_take"=some (.ref ft)
section
variable{P:Program}{w:World}{K:PySem.W.Frag}{mg:Str->Option Value}{base:Heap}
abbrev yt:Stmt:=top 25
theorem yn:FnScope ["_law_box_here","_law_letters_here","_law_names","_law_most","_law_deep_here","_law_rows","_law_frees_here","_law_depths","_law_row","_law_one"] ["_law_box_here","_law_letters_here","_law_names","_law_most","_law_deep_here"] (jh yt):=⟨rfl,rfl,rfl,by decide +kernel,rfl,by decide +kernel,by decide +kernel⟩
theorem ok__law_rows_to{f fs fn fdp:Addr}{fd fds fdn fdd:FuncData}(F:Fun K "_law_rows_to" "_law_rows_to" yt f fd)(T:TRo mg fs fn fdp)(F18z:Fun K "_law_saying_rows" "_law_saying_rows" kz fs fds)(b18z:Binds K fds ["_law_box_here","_law_letters_here","_law_names","_law_most"] [])
  (G18z:FnOk P w K mg base CX0 3 fs fds ["_law_box_here","_law_letters_here","_law_names","_law_most"] spSR) (F3z:Fun K "_law_names_of" "_law_names_of" kx fn fdn) (b3z:Binds K fdn ["_law_row","_law_frees_here"] [])
  (G3z:FnOk P w K mg base CX0 1 fn fdn ["_law_row","_law_frees_here"] spNO) (F10z:Fun K "_law_deep" "_law_deep" yz fdp fdd) (b10z:Binds K fdd ["_law_row","_law_depths"] [])
  (G10z:FnOk P w K mg base CX0 1 fdp fdd ["_law_row","_law_depths"] spDp):FnOk P w K mg base CX0 4 f fd ["_law_box_here","_law_letters_here","_law_names","_law_most","_law_deep_here"] spRo:=by
 refine F.ok yn (λvs H Q E h=>?_) (λcdv A outer s H vs Q E hr h=>?_)
 ·obtain⟨b,p,z,zs,m,dh,o,rfl,_⟩:=h
  rfl
 ·obtain⟨b,p,z,zs,m,dh,o,rfl,hb,ho,hz,hp,z1,z2,m1,m2,nbp,k⟩:=h
  have hu:=hr.units
  refine⟨_,(QSs.h (jg (jl (i:=5) yn.nd rfl (by first|exact Or.inl rfl|exact Or.inr rfl) (j5 jc))
  (jg (jl (i:=6) yn.nd rfl (by first|exact Or.inl rfl|exact Or.inr rfl) (j5 jc))
  (jg (jl (i:=7) yn.nd rfl (by first|exact Or.inl rfl|exact Or.inr rfl) (j5 jc))
  (jg (yp Iv rfl (kf (K:=K) (jj G18z (hr.mono (by decide)) rfl T.m18z F18z.kp b18z .nil jo (ja (qpv 0) (ja (qpv 1) (ja (qpv 2) (ja (qpv 3) jc))))) rfl) (jt (i:=8) yn.nd rfl (by first|exact Or.inl rfl|exact Or.inr rfl)) (jg (jl (i:=9) yn.nd rfl (by first|exact Or.inl rfl|exact Or.inr rfl) (qpv 8))
  (jz (j0 (QW.pt (jal (jn ja5 (jv j6 (by rfl) T.n_len kc (ja (jj G3z (hr.mono (by decide)) rfl T.m3z F3z.kp b3z .nil jo (ja (qpv 8) (ja (qpv 6) jc))) jc)) jf (jr _)) (z8 (jn ja5 (jj G10z (hr.mono (by decide)) rfl T.m10z F10z.kp b10z .nil jo (ja (qpv 8) (ja (qpv 7) jc))) (qpv 4) (jr _))))) (ji (jl (i:=9) yn.nd rfl (by first|exact Or.inl rfl|exact Or.inr rfl) (j9 (ja jm (ja (jq jac (jv j6 (by rfl) T.n_len kc (ja (qpv 5) jc)) jf) jc))))) ju)
  (jg (ky (yh A7 A8 ku (qpv 5) (ja (qpv 9) jc) jcl))
  (jg (ky (yh A7 A8 ku (qpv 6) (ja (jj G3z (hr.mono (by decide)) rfl T.m3z F3z.kp b3z .nil jo (ja (qpv 9) (ja (qpv 6) jc))) jc) jcl))
  (ji (ky (yh A7 A8 ku (qpv 7) (ja (jj G10z (hr.mono (by decide)) rfl T.m10z F10z.kp b10z .nil jo (ja (qpv 9) (ja (qpv 7) jc))) jc) jcl))))))))
  (ji (jp (qpv 5)))))))),?_⟩
  have hsz:sizeLine=16777216:=Aq
  simp!
  refine⟨by omega,λA hA=>⟨by omega,λB hB=>⟨by omega,λC hC=>?_⟩⟩⟩
  have nAB:A≠B:=je jb hB
  have nBC:B≠C:=je jb hC
  have nAC:A≠C:=je (by rw[jd nAB,jb]) hC
  have k0:Kp [] H (upd (upd (upd H A (.lst [])) B (.lst [])) C (.lst [])):=(((Kp.refl [] H).new hA).new hB).new hC
  have eA:upd (upd (upd H A (.lst [])) B (.lst [])) C (.lst []) A=some (.lst []):=by rw[jd nAC,jd nAB,jb]
  have eB:upd (upd (upd H A (.lst [])) B (.lst [])) C (.lst []) B=some (.lst []):=by rw[jd nBC,jb]
  have eC:upd (upd (upd H A (.lst [])) B (.lst [])) C (.lst []) C=some (.lst []):=jb
  generalize upd (upd (upd H A (.lst [])) B (.lst [])) C (.lst [])=H0 at k0 eA eB eC⊢
  have hB0:H B=none:=by
   rw[jd nAB.symm]at hB;exact hB
  have hC0:H C=none:=by
   rw[jd nBC.symm,jd nAC.symm]at hC;exact hC
  have nbA:b≠A:=je hb hA
  have nbB:b≠B:=je hb hB0
  have nbC:b≠C:=je hb hC0
  refine⟨b,p,z,zs,m,o,rfl,k0.old _ _ hb Ae,ho,hz,k0.old _ _ hp Ae,z1,z2,m1,m2,nbp,λq us0 rs0 o1 H1 l1 l2 ra0 ok0 hq0 hq1 ho1 hb1 k1=>?_⟩
  have nqA:q≠A:=λe=>by rw[e,eA]at hq0;cases hq0
  have nqB:q≠B:=λe=>by rw[e,eB]at hq0;cases hq0
  have nqC:q≠C:=λe=>by rw[e,eC]at hq0;cases hq0
  have hul:us0.length=rs0.length:=Au ra0
  have hK1:Kp [b] H H1:=(k0.mono (by simp)).trans k1
  simp only[hq1]
  refine jcs (xs:=us0) (λi σ H'=>∃(v1 v2:Option V)(us:List V)(rs:List RS)(ys:List V)(G:List (List Str)),σ=[some (.ref b),some (.str z),some (.ref p),some (.int (m:Int)),some (.int (dh:Int)),some (.ref A),some (.ref B),some (.ref C),v1,v2]/\rs.length=i/\IT H b A B C q zs us0 rs0 us rs ys G H') ?_ ?_ ?_ ?_
  ·exact⟨none,none,[],[],[],[],rfl,rfl,hK1,⟨o1,ho1,hb1⟩,hq1,ra0,k1.old _ _ eA (by simpa using nbA.symm),.nil,(λk r e=>by simp at e),Le3.nil zs,k1.old _ _ eB (by simpa using nbB.symm),.nil,CF.nil zs,k1.old _ _ eC (by simpa using nbC.symm)⟩
  ·rintro i σ H' _ ⟨_,_,_,_,_,_,rfl,_,I⟩
   exact I.hq
  ·rintro i x σ H2 hx ⟨v1,v2,us,rs,ys,G,rfl,hlr,I⟩
   obtain⟨r,c,hri,rfl,hc⟩:=I.r0.get hx
   have hi:i<rs0.length:=(Ag.mp hri).1
   have okr:=ok0 i r hri
   simp!
   refine⟨λσ H'=>∃(c':Addr)(r':RS),σ=[some (.ref b),some (.str z),some (.ref p),some (.int (m:Int)),some (.int (dh:Int)),some (.ref A),some (.ref B),some (.ref C),some (.ref c),some (.ref c')]/\H' c'=some (.tup (rowV r'))/\r'.ok zs i/\(∃l,Cn l (fm G r')/\l.length<=3)/\IT H b A B C q zs us0 rs0 us rs ys G H',?_,?_⟩
   ·simp!
    have uL:us.length=i:=by rw[Au I.ra];exact hlr
    have nrow:∀H4,IT H b A B C q zs us0 rs0 us rs ys G H4->i≠0->∃ys_1,jc2 (H4 A)=some ys_1/\2<=sizeLine/\∀(p:Addr),H4 p=none->∃x,[V.str (Str.ofString "not"),V.int ((ys_1.length:Int)-1)]=rowV x/\RS.ok zs i x/\(∃l,Cn l (fm G x)/\l.length<=3) /\
      IT H b A B C q zs us0 rs0 us rs ys G (upd H4 p (HO.tup [V.str (Str.ofString "not"),V.int ((ys_1.length:Int)-1)])):=λH4 I4 h0 =>
     ⟨us,by rw[I4.hA];rfl,by omega,λp hp=>⟨.no (i-1),by rw[uL,show((i:Int)-1)=((i-1:Nat):Int)by omega];rfl,by show i-1<i;omega,⟨G.getD (i-1) [],I4.cn (by omega),I4.l3.all I4.cf _⟩,I4.mv ((Kp.refl [] H4).new hp)⟩⟩
    refine⟨c,B,r,[A,B,C],ys,G,rs,zs,rfl,hc,I.hB,I.fl,I.cf,by rw[hlr];exact okr,z2,λp' l H3 hp' k3 e3 cn=>?_⟩
    have I3:=I.mv k3
    have hc3:=k3.tup _ _ hc
    simp! [e3]
    refine ite2 (λh3=>nrow H3 I3 λh0=>?_) (λh3=>⟨c,C,r,deps rs,zs,rfl,hc3,I3.hC,by rw[je9,hlr];exact okr,λH4 k4=>⟨_,rfl,ite2 (λh6=>nrow H4 (I3.mv k4) λh0=>?_) λ_=>⟨r,k4.tup _ _ hc3,okr,⟨l,cn,by rw[Ad]at h3;omega⟩,I3.mv k4⟩⟩⟩)
    ·rw[h0]at okr
     have:=jd8 cn.nd (λx hx=>(cn.me x).mp hx)
     have:=(fm0 (F:=G) (D:=deps rs) okr).1
     rw[Ad]at h3
     omega
    ·rw[h0]at okr
     have:=(fm0 (F:=G) (D:=deps rs) okr).2
     omega
   rintro _ H3 ⟨c',r',rfl,hc',okr',⟨l3,cn3,le3⟩,I3⟩
   simp!
   have uL:us.length=i:=by rw[Au I3.ra];exact hlr
   have yL:ys.length=i:=by rw[I3.fl.len,I3.cf.len];exact hlr
   have kA:Kp [A] H3 (upd H3 A (.lst (us++[.ref c']))):=(Kp.refl [A] H3).set I3.hA (.inl (by simp))
   have kp4:=I3.kp.set (o:=.lst (us++[.ref c'])) I3.hA (.inr hA)
   have e4A:upd H3 A (.lst (us++[.ref c'])) A=some (.lst (us++[.ref c'])):=jb
   refine⟨by rw[I3.hA];rfl,us,by rw[I3.hA];rfl,by omega,?_⟩
   generalize upd H3 A (.lst (us++[.ref c']))=H4 at kA kp4 e4A⊢
   have e4B:=kA.old _ _ I3.hB (by simpa using nAB.symm)
   have e4C:=kA.old _ _ I3.hC (by simpa using nAC.symm)
   refine⟨by rw[e4B];rfl,c',B,r',[A,B,C],ys,G,rs,zs,rfl,kA.tup _ _ hc',e4B,FL.kp (S:=[A]) (by simp) kA I3.fl,I3.cf,by rw[hlr];exact okr',z2,λp' l H5 hp' k5 e5 cn=>?_⟩
   have e5B:=k5.old _ _ e4B Ae
   have kp5:=kp4.trans (k5.mono (by simp))
   have kB:Kp [B] H5 (upd H5 B (.lst (ys++[.ref p']))):=(Kp.refl [B] H5).set e5B (.inl (.head _))
   have kp6:=kp5.set (o:=.lst (ys++[.ref p'])) e5B (.inr hB0)
   have e6B:upd H5 B (.lst (ys++[.ref p'])) B=some (.lst (ys++[.ref p'])):=jb
   refine⟨ys,by rw[e5B];rfl,by omega,?_⟩
   generalize upd H5 B (.lst (ys++[.ref p']))=H6 at kB kp6 e6B⊢
   have npA:p'≠A:=λe=>by rw[e,e4A]at hp';cases hp'
   have npB:p'≠B:=λe=>by rw[e,e4B]at hp';cases hp'
   have npC:p'≠C:=λe=>by rw[e,e4C]at hp';cases hp'
   have e6C:=kB.old _ _ (k5.old _ _ e4C Ae) (by simpa using nBC.symm)
   have k46:Kp [A,B,C] H3 H6:=(kA.mono (by simp)).trans ((k5.mono (by simp)).trans (kB.mono (by simp)))
   refine⟨by rw[e6C];rfl,c',C,r',deps rs,zs,rfl,k46.tup _ _ hc',e6C,by rw[je9,hlr];exact okr',λH7 k7=>?_⟩
   have e7C:=k7.old _ _ e6C Ae
   have kC:Kp [C] H7 (upd H7 C (.lst (((deps rs).map λn:Nat=>V.int (n:Int))++[.int (dp (deps rs) r':Nat)]))):=(Kp.refl [C] H7).set e7C (.inl (.head _))
   have kp8:=(kp6.trans (k7.mono (by simp))).set (o:=.lst (((deps rs).map λn:Nat=>V.int (n:Int))++[.int (dp (deps rs) r':Nat)])) e7C (.inr hC0)
   have e8C:upd H7 C (.lst (((deps rs).map λn:Nat=>V.int (n:Int))++[.int (dp (deps rs) r':Nat)])) C=some (.lst (((deps rs).map λn:Nat=>V.int (n:Int))++[.int (dp (deps rs) r':Nat)])):=jb
   refine⟨_,by rw[e7C];rfl,by rw[Ad,je9];omega,_,_,⟨rfl,rfl⟩,us++[.ref c'],rs++[r'],by simp[hlr],ys++[.ref p'],G++[l],?_⟩
   generalize upd H7 C (.lst (((deps rs).map λn:Nat=>V.int (n:Int))++[.int (dp (deps rs) r':Nat)]))=H8 at kC kp8 e8C⊢
   have kk:Kp [A,B,C] H3 H8:=k46.trans ((k7.mono (by simp)).trans (kC.mono (by simp)))
   obtain⟨o3,ho3,hb3⟩:=I3.bx
   refine⟨kp8,⟨o3,ho3,kk.old _ _ hb3 (by simp[nbA,nbB,nbC])⟩,kk.old _ _ I3.hq (by simp[nqA,nqB,nqC]),I3.r0.kp kk,?_,O9 (I3.ra.kp kk) ⟨c',rfl,kk.tup _ _ hc'⟩,I3.ok.snoc (by rw[hlr];exact okr'),I3.l3.snoc (I3.ok.snoc (by rw[hlr];exact okr')) (λF cF l' cl=>?_),?_,O9 (FL.kp (S:=[A,B,C]) (by simp) kk I3.fl) ⟨p',rfl,by simp[npA,npB,npC],?_⟩,I3.cf.snoc I3.ok (by rw[hlr];exact okr') cn,?_⟩
   rotate_left
   ·rw[cF.eq I3.ok I3.cf]at cl;rw[cl.one cn3 λ_=>Iff.rfl];exact le3
   rotate_right
   ·exact kC.old _ _ (k7.old _ _ (kB.old _ _ (k5.old _ _ e4A Ae) (by simpa using nAB)) (by simp)) (by simpa using nAC)
   ·exact kC.old _ _ (k7.old _ _ e6B Ae) (by simpa using nBC)
   ·exact kC.old _ _ (k7.old _ _ (kB.old _ _ e5 (by simpa using npB)) (by simp)) (by simpa using npC)
   ·rw[e8C,jgt,I0]
    rfl
  ·rintro σ H2 ⟨v1,v2,us,rs,ys,G,rfl,hlr,I⟩
   simp!
   obtain⟨o2,ho2,hb2⟩:=I.bx
   exact k A us rs o2 H2 (by omega) (by omega) I.ra I.ok I.l3 hA I.hA ho2 hb2 I.kp
abbrev yq:Stmt:=top 30
theorem jap:FnScope ["_law_box_here","_law_rows","_law_found"] ["_law_box_here","_law_rows"] (jh yq):=⟨rfl,rfl,rfl,by decide +kernel,rfl,by decide +kernel,by decide +kernel⟩
theorem ok__law_doubled{f ft:Addr}{fd fdt:FuncData}(F:Fun K "_law_doubled" "_law_doubled" yq f fd)(T:TDb mg ft)(F0z:Fun K "_law_take" "_law_take" j7 ft fdt)(b0z:Binds K fdt ["_law_box_here","_law_wide"] [])
  (G0z:FnOk P w K mg base CX0 1 ft fdt ["_law_box_here","_law_wide"] jc7):FnOk P w K mg base CX0 2 f fd ["_law_box_here","_law_rows"] spDb:=by
 refine F.ok jap (λvs H Q E h=>?_) (λcdv A outer s H vs Q E hr h=>?_)
 ·obtain⟨b,p,us,rs,zs,o,rfl,_⟩:=h
  rfl
 ·obtain⟨b,p,us,rs,zs,o,rfl,hb,ho,hp,ra,ok,le,l1,l2,nbp,k⟩:=h
  have hu:=hr.units
  refine⟨_,(QSs.h (jg (jl (i:=2) jap.nd rfl (by first|exact Or.inl rfl|exact Or.inr rfl) (ki (jah rfl) (by rfl) T.n_list ja4 (ja (qpv 1) jc)))
  (jg (jbo Iv (jn jab (jv j6 (by rfl) T.n_len kc (ja (qpv 2) jc)) jf (jr _)) (ji (ky (yh A7 A8 ku (qpv 2) (ja (j9 (ja (jk ix_U (j5 (ja jm (ja jm jc))) (jj G0z (hr.mono (by decide)) rfl T.m0z F0z.kp b0z .nil jo (ja (qpv 0) (ja jf jc))) (λ_ _=>rfl)) (ja (jq jac (jv j6 (by rfl) T.n_len kc (ja (qpv 2) jc)) jf) (ja (jq jac (jv j6 (by rfl) T.n_len kc (ja (qpv 2) jc)) jf) jc)))) jc) jcl))))
  (ji (jp (ki jas (by rfl) T.n_tuple z3 (ja (qpv 2) jc))))))),?_⟩
  have hsz:sizeLine=16777216:=Aq
  simp!
  refine⟨us,by rw[hp];rfl,λl hl=>?_⟩
  have nbl:b≠l:=je hb hl
  refine⟨λn σ H'=>∃(us':List V)(rs':List RS),σ=[some (.ref b),some (.ref p),some (.ref l)]/\n+rs'.length=60/\1<=rs'.length/\H' l=some (.lst us')/\RowsAt H' us' rs'/\okR zs rs'/\Le3 zs rs'/\(∃o,BoxO o/\H' b=some o)/\Kp [b] H H',⟨60-rs.length,us,rs,rfl,by omega,l1,jb,ra.kp ((Kp.refl [] H).new hl),ok,le,⟨o,ho,by rw[jd nbl];exact hb⟩,(Kp.refl [b] H).new hl⟩,?_⟩
  rintro n σ H1 ⟨us',rs',rfl,hn,l1',e1,ra1,ok1,le1,⟨o1,ho1,hb1⟩,k1⟩
  have uL:us'.length=rs'.length:=Au ra1
  simp! [e1]
  refine ite2 (λh=>?_) (λh=>?_)
  ·refine⟨λσ H'=>∃(us':List V)(rs':List RS),σ=[some (.ref b),some (.ref p),some (.ref l)]/\n-1+rs'.length=60/\1<=rs'.length/\H' l=some (.lst us')/\RowsAt H' us' rs'/\okR zs rs'/\Le3 zs rs'/\(∃o,BoxO o/\H' b=some o)/\Kp [b] H H',λσ' H' ⟨us',rs',h1,h2⟩=>⟨n-1,by omega,h1,us',rs',h2⟩,?_⟩
   simp! [e1]
   refine⟨by omega,λt ht=>⟨b,2,o1,rfl,by rw[jd (je hb1 ht)];exact hb1,ho1,by omega,by omega,λd o2 d0 d1 ho2=>?_⟩⟩
   have nbt:b≠t:=je hb1 ht
   have nlt:l≠t:=je e1 ht
   have e2t:upd (upd H1 t (.lst [.str "and",.str "or"])) b o2 t=some (.lst [.str "and",.str "or"]):=by rw[jd nbt.symm,jb]
   have e2l:upd (upd H1 t (.lst [.str "and",.str "or"])) b o2 l=some (.lst us'):=by rw[jd nbl.symm,jd nlt];exact e1
   have e2b:upd (upd H1 t (.lst [.str "and",.str "or"])) b o2 b=some o2:=jb
   have k2:Kp [b] H (upd (upd H1 t (.lst [.str "and",.str "or"])) b o2):=by
    obtain⟨xs2,rfl⟩:=id ho1.lst
    exact(k1.new ht).set (by rw[jd nbt];exact hb1) (.inl (by simp))
   have r2:RowsAt (upd (upd H1 t (.lst [.str "and",.str "or"])) b o2) us' rs':=by
    obtain⟨xs2,rfl⟩:=id ho1.lst
    exact ra1.kp (((Kp.refl [b] H1).new ht).set (by rw[jd nbt];exact hb1) (.inl (by simp)))
   generalize upd (upd H1 t (.lst [.str "and",.str "or"])) b o2=H2 at e2t e2l e2b k2 r2⊢
   obtain⟨c,hc⟩:∃c:Bool,atI [V.str "and",V.str "or"] d=some (.str (if c then"and"else"or")):=by
    rcases(by omega:d=0\/d=1)with rfl|rfl
    ·exact⟨true,rfl⟩
    ·exact⟨false,rfl⟩
   simp! [e2t]
   refine⟨_,hc,?_⟩
   simp only[e2l]
   refine⟨us',rfl,us',rfl,by omega,λu hu'=>?_⟩
   have nbu:b≠u:=je e2b hu'
   have nlu:l≠u:=je e2l hu'
   rw[show[V.str (if c then"and"else"or"),V.int ((us'.length:Int)-1),V.int ((us'.length:Int)-1)]=rowV (.bin c (rs'.length-1) (rs'.length-1))by rw[uL,show((rs'.length:Int)-1)=((rs'.length-1:Nat):Int)by omega];rfl]
   have e3l:upd H2 u (.tup (rowV (.bin c (rs'.length-1) (rs'.length-1)))) l=some (.lst us'):=by rw[jd nlu];exact e2l
   refine⟨us',by rw[e3l];rfl,by omega,us'++[.ref u],rs'++[.bin c (rs'.length-1) (rs'.length-1)],by simp;omega,by simp,rfl,?_,ok1.snoc (r:=.bin c (rs'.length-1) (rs'.length-1)) ⟨by omega,by omega⟩,le1.snoc (ok1.snoc (r:=.bin c (rs'.length-1) (rs'.length-1)) ⟨by omega,by omega⟩) (λF cF l' cl=>cl.le3 (m:=F.getD (rs'.length-1) []) (λx hx=>(Is.mp hx).elim id id) (le1.all cF _)),⟨o2,ho2,by rw[jd nbl,jd nbu];exact e2b⟩,(k2.new hu').set e3l (.inr hl)⟩
   have kL:Kp [l] (upd H2 u (.tup (rowV (.bin c (rs'.length-1) (rs'.length-1))))) (upd (upd H2 u (.tup (rowV (.bin c (rs'.length-1) (rs'.length-1))))) l (.lst (us'++[.ref u]))):=(Kp.refl [l] _).set e3l (.inl (.head _))
   exact O9 ((r2.kp ((Kp.refl [] H2).new hu')).kp kL) ⟨u,rfl,kL.tup _ _ jb⟩
  ·have h60:rs'.length=60:=by omega
   simp!
   exact .inl ⟨us',by rw[e1];rfl,λq hq=>k q us' rs' o1 _ h60 (ra1.kp ((Kp.refl [] H1).new hq)) ok1 le1 (k1.free hq) jb ho1 (by rw[jd (je hb1 hq)];exact hb1) (k1.new hq)⟩
end
theorem jg0{α:Type}[DecidableEq α]:∀{l zs:List α},l.Nodup->(∀x∈l,x∈zs)->l.length<=zs.length
 |[],_,_,_=>Ou _
 |x::l,zs,nd,h=>by
  obtain⟨hx,nd'⟩:=Uh.mp nd
  have hm:=h x (.head _)
  have:=jg0 (l:=l) (zs:=zs.erase x) nd' λy hy=>(List.mem_erase_of_ne (λe:y=x=>hx (e▸hy))).mpr (h y (.tail _ hy))
  rw[List.length_erase_of_mem hm]at this
  have hp:0<zs.length:=List.length_pos_of_mem hm
  rw[List.length_cons]
  omega
theorem jqd{P:Program}{w:World}{A B:Type}[DecidableEq A][DecidableEq B]{κ:PKd P w A B}{H:Hp}{a:Addr}{G:A×B->Option V}{n:Nat}(d:DP κ H a G n)(L:List (A×B))(hL:∀k v,G k=some v->k∈L):DP κ H a G L.length:=by
 obtain⟨xs,e,h1,h2,h3,h4,h5⟩:=d
 refine⟨xs,e,h1,?_,h3,h4,h5⟩
 rw[<-Ad (f:=(·.1))]
 refine jg0 h4 λk hk=>?_
 obtain⟨x,hx,rfl⟩:=Ay.mp hk
 have:=h5 x.1
 cases e:G x.1 with
 |some v=>exact hL _ v e
 |none =>
  rw[e]at this
  obtain⟨y,hy⟩:∃y,xs.find? (λy=>decide (y.1=x.1))=some y:=by
   rw[<-Um,List.find?_isSome]
   exact⟨x,hx,by simp⟩
  rw[show PySem.atKey xs x.1=some y.2 by unfold PySem.atKey;rw[hy];rfl]at this
  exact absurd this (by intro h;exact h)
theorem jfv{S:List Addr}{H H1:Hp}(k:Kp S H H1){b:Addr}{v o:HO}(hb:H1 b=some v)(nt:∀ys,v≠.tup ys)(h:b∈S\/H b=none):Kp S H (upd H1 b o):=by
 refine⟨λc u e n=>?_,λc xs e=>?_,λc u e=>?_⟩
 ·have nb:c≠b:=λz=>h.elim (λm=>n (z▸m)) λf=>by rw[z,f]at e;cases e
  rw[jd nb];exact k.old _ _ e n
 ·have e1:=k.tup _ _ e
  rw[jd λz=>by rw[z,hb]at e1;exact nt xs (Av e1)];exact e1
 ·by_cases z:c=b
  ·rw[z,jb];exact⟨_,rfl⟩
  ·rw[jd z];exact k.dom _ _ e
abbrev ik(n:Nat):L2.Key:=.inl (n:Int)
def kk(i:Nat)(c:List Nat):L2.Key×List L2.Key:=(ik i,c.map ik)
def keys(m:Nat)(F:List (List Str))(n:Nat):List (L2.Key×List L2.Key):=(List.range n).flatMap λi=>(allC m (F.getD i []).length).map (kk i)
theorem jns{m n:Nat}{F:List (List Str)}(hm:m<=10)(hF:∀k,(F.getD k []).length<=3):(keys m F n).length<=n*1000:=by
 unfold keys
 induction n with
 |zero=>simp
 |succ n ih =>
  rw[Yt,List.flatMap_append,Aw]
  have:([n].flatMap λi=>(allC m (F.getD i []).length).map (kk i)).length<=1000:=by
   simp only[W8,List.flatMap_nil,Ug,Ad,jc4]
   exact Io (Nat.pow_le_pow_left hm _) (Io (Nat.pow_le_pow_right (by decide) (hF n)) (by decide))
  omega
structure Kn(m:Nat)(F:List (List Str))(S:List Sm)(G:L2.Key×List L2.Key->Option V):Prop where
 ok:∀k v,G k=some v->∃i c,k=kk i c/\i<S.length/\c.length=(F.getD i []).length/\(∀p∈c,p<m)/\v=.bl (sAt S i (asg (F.getD i []) c))
theorem jpx{i j:Nat}{c d:List Nat}(h:kk i c=kk j d):i=j/\c=d:=by
 have h1:=Ob Prod.fst h
 have h2:=Ob Prod.snd h
 have a1:(i:Int)=(j:Int):=Sum.inl.inj h1
 have a2:c.map ik=d.map ik:=h2
 refine⟨Int.ofNat.inj a1,?_⟩
 exact(List.map_inj_right (λx y e=>Int.ofNat.inj (Sum.inl.inj e))).mp a2
theorem Kn.mem{m:Nat}{F:List (List Str)}{S:List Sm}{G:L2.Key×List L2.Key->Option V}(h:Kn m F S G):∀k v,G k=some v->k∈keys m F S.length:=λk v e=>by
 obtain⟨i,c,rfl,hi,hc,hp,_⟩:=h.ok k v e
 refine List.mem_flatMap.mpr ⟨i,Ub.mpr hi,Ay.mpr ⟨c,?_,rfl⟩⟩
 have:=jf6 m c hp
 rw[hc]at this
 exact A6 this
theorem Kn.put{m i:Nat}{F:List (List Str)}{S:List Sm}{G:L2.Key×List L2.Key->Option V}{ρ:Str->Nat}(h:Kn m F S G)(hi:i<S.length)(hρ:∀y∈F.getD i [],ρ y<m)(hd:Dep (sAt S i) (F.getD i [])):Kn m F S (λj=>if j=kk i ((F.getD i []).map ρ)then some (.bl (sAt S i ρ))else G j):=⟨λk v e=>by
 split at e
 ·rename_i hk
  refine⟨i,(F.getD i []).map ρ,hk,hi,Ad ..,λp hp=>?_,?_⟩
  ·obtain⟨y,hy,rfl⟩:=Ay.mp hp
   exact hρ y hy
  ·rw[<-Av e,hd _ ρ λx hx=>jf7 hx]
 ·exact h.ok k v e⟩
theorem Kn.get{m i:Nat}{F:List (List Str)}{S:List Sm}{G:L2.Key×List L2.Key->Option V}{ρ:Str->Nat}{v:V}(h:Kn m F S G)(hd:Dep (sAt S i) (F.getD i []))(e:G (kk i ((F.getD i []).map ρ))=some v):v=.bl (sAt S i ρ):=by
 obtain⟨j,c,hk,_,_,_,rfl⟩:=h.ok _ v e
 obtain⟨rfl,rfl⟩:=jpx hk
 rw[hd _ ρ λx hx=>jf7 hx]
structure KI(P:Program)(w:World)(H:Hp)(sy fr kn:Addr)(z:Str)(rs:List RS)(zs:List Str)(F:List (List Str)):Prop where
 sy:∃us,H sy=some (.tup us)/\RowsAt H us rs
 fr:∃ys,H fr=some (.lst ys)/\FL [] H ys F
 cf:CF zs F rs
 ok:okR zs rs
 l3:∀k,(F.getD k []).length<=3
 zl:z.length<=10
 rl:rs.length<=100
 kn:∃G n,DP (PKd.kt P w) H kn G n/\Kn z.length F (sms z.cps.toList rs) G
theorem KI.kp{P:Program}{w:World}{H H':Hp}{sy fr kn:Addr}{z:Str}{rs:List RS}{zs:List Str}{F:List (List Str)}(I:KI P w H sy fr kn z rs zs F)(k:Kp [] H H'):KI P w H' sy fr kn z rs zs F:=by
 obtain⟨us,h1,h2⟩:=I.sy
 obtain⟨ys,h3,h4⟩:=I.fr
 obtain⟨G,n,h5,h6⟩:=I.kn
 exact⟨⟨us,k.tup _ _ h1,h2.kp k⟩,⟨ys,k.old _ _ h3 Ae,h4.kp (by simp) k⟩,I.cf,I.ok,I.l3,I.zl,I.rl,⟨G,n,h5.keep k (by simp) (by simp),h6⟩⟩
theorem KI.nl{P:Program}{w:World}{H:Hp}{sy fr kn:Addr}{z:Str}{rs:List RS}{zs:List Str}{F:List (List Str)}(I:KI P w H sy fr kn z rs zs F){a:Addr}{o:HO}(h:H a=some o)(no:∀φ,o≠.ext φ):a≠kn:=λe=>by
 obtain⟨G,n,h5,_⟩:=I.kn
 obtain⟨φ,hφ⟩:=h5.ext
 rw[e,hφ]at h
 exact no φ (Av h).symm
theorem KI.set{P:Program}{w:World}{H H':Hp}{sy fr kn:Addr}{z:Str}{rs:List RS}{zs:List Str}{F:List (List Str)}(I:KI P w H sy fr kn z rs zs F)(k:Kp [kn] H H'){G:L2.Key×List L2.Key->Option V}{n:Nat}(d:DP (PKd.kt P w) H' kn G n)(g:Kn z.length F (sms z.cps.toList rs) G):KI P w H' sy fr kn z rs zs F:=by
 obtain⟨us,h1,h2⟩:=I.sy
 obtain⟨ys,h3,h4⟩:=I.fr
 refine⟨⟨us,k.tup _ _ h1,h2.kp k⟩,⟨ys,k.old _ _ h3 (by simpa using I.nl h3 λ_ h=>by cases h),Paired.mapP h4 λ_ _ ⟨q,e,n,g⟩=>⟨q,e,n,k.old _ _ g (by simpa using I.nl g λ_ h=>by cases h)⟩⟩,I.cf,I.ok,I.l3,I.zl,I.rl,⟨G,n,d,g⟩⟩
def spTr(P:Program)(w:World)(k:Nat):Sp:=λvs H Q _=>∃(sy fr kn pl:Addr)(i:Nat)(z:Str)(rs:List RS)(zs:List Str)(F:List (List Str))(kvs:List (L2.Key×V))(ρ:Str->Nat),vs=[.ref sy,.ref fr,.int (i:Int),.str z,.ref pl,.ref kn]/\KI P w H sy fr kn z rs zs F/\i<k/\i<rs.length /\
 H pl=some (.dK kvs)/\kvs.length+11*i<=100000/\(∀y∈F.getD i [],valV kvs (.inr y)=some (.int (ρ y:Nat))/\ρ y<z.length)/\∀H',Kp [kn] H H'->KI P w H' sy fr kn z rs zs F->Q (.bl (sAt (sms z.cps.toList rs) i ρ)) H'
theorem DGet.k'{H:Hp}{a:Addr}{kvs:List (L2.Key×V)}{k:L2.Key}{v:V}(e:H a=some (.dK kvs))(h:valV kvs k=some v):DGet H a (kV k) (some v):=h▸DGet.k e
structure TTr(mg:Str->Option Value)(fs:Addr):Prop where
 n_tuple:mg "tuple"=none
 m9z:mg "_law_said"=some (.ref fs)
section
variable{P:Program}{w:World}{K:PySem.W.Frag}{mg:Str->Option Value}{base:Heap}
abbrev yv:Stmt:=top 28
abbrev yb:Stmt:=top 27
theorem jan:FnScope ["_law_saying","_law_frees_here","_law_at","_law_text_here","_law_places_here","_law_known","_law_key"] ["_law_saying","_law_frees_here","_law_at","_law_text_here","_law_places_here","_law_known"] (jh yb):=⟨rfl,rfl,rfl,by decide +kernel,rfl,by decide +kernel,by decide +kernel⟩
theorem ok__law_true{k:Nat}{f fs:Addr}{fd fds:FuncData}(F0:Fun K "_law_true" "_law_true" yb f fd)(T:TTr mg fs)(F9z:Fun K "_law_said" "_law_said" yv fs fds)(b9z:Binds K fds ["_law_saying","_law_frees_here","_law_at","_law_text_here","_law_places_here","_law_known"] [])
  (G9z:FnOk P w K mg base CX0 (2*k+2) fs fds ["_law_saying","_law_frees_here","_law_at","_law_text_here","_law_places_here","_law_known"] (spTr P w (k+1))):FnOk P w K mg base CX0 (2*k+2+1) f fd ["_law_saying","_law_frees_here","_law_at","_law_text_here","_law_places_here","_law_known"] (spTr P w (k+1)):=by
 refine F0.ok jan (λvs H Q E h=>?_) (λcdv A outer s H vs Q E hr h=>?_)
 ·obtain⟨sy,fr,kn,pl,i,z,rs,zs,F,kvs,ρ,rfl,_⟩:=h
  rfl
 ·obtain⟨sy,fr,kn,pl,i,z,rs,zs,F,kvs,ρ,rfl,I,ik1,irs,hpl,hkl,hρ,q⟩:=h
  have hu:=hr.units
  have hsz:sizeLine=16777216:=Aq
  have hu1:(A.deeper (PyProof.Rows.envOfC (Str.ofString "_law_true") (jh yb) s.heap.objs.size f cdv)).units+1<cLine:=by omega
  have hu2:(A.deeper (PyProof.Rows.envOfC (Str.ofString "_law_true") (jh yb) s.heap.objs.size f cdv)).units+2<cLine:=by omega
  refine exQ (jg (jl (i:=6) jan.nd rfl (by first|exact Or.inl rfl|exact Or.inr rfl) (j9 (ja (qpv 2) (ja (ki jar (by rfl) T.n_tuple z3 (ja (yc rfl (jch (sc:=jh yb) (N:=["_law_saying","_law_frees_here","_law_at","_law_text_here","_law_places_here","_law_known","_law_key"]) (Nc:=["_law_name","_law_places_here"]) (js:=[none,some 4]) (by decide +kernel)) (kf (K:=K) (jk ix_U (qpv 1) (qpv 2) (λ_ _=>rfl)) rfl) (λ_ _ _ _=>(jt (i:=0) (show List.Nodup [("_law_name":Str),("_law_places_here":Str)]from by decide +kernel) rfl (by first|exact Or.inl rfl|exact Or.inr rfl))) (λ_ _ _ _=>(jak hu1 (qpv 1) (qpv 0) (λ_ _=>rfl)))) jc)) jc))))
  (jz (j0 (jca (jbc (κ:=PKd.kt P w) rfl rfl hu2 (qpv 6) (qpv 5)) (by with_unfolding_all rfl)) (ji (jbz (κ:=PKd.kt P w) rfl rfl hu2 (qpv 5) (qpv 6) (jj G9z (hr.mono (by omega)) rfl T.m9z F9z.kp b9z .nil jo (ja (qpv 0) (ja (qpv 1) (ja (qpv 2) (ja (qpv 3) (ja (qpv 4) (ja (qpv 5) jc))))))) rfl)) ju)
  (ji (jp (jbv (κ:=PKd.kt P w) rfl rfl hu2 (qpv 5) (qpv 6) (λ_ _=>rfl)))))) ?_
  obtain⟨ys,hfr,fl⟩:=I.fr
  have hFl:=I.cf.len
  obtain⟨fq,hq1,_,hq2⟩:=fl.get (i:=i) (by omega)
  have hd:Dep (sAt (sms z.cps.toList rs) i) (F.getD i []):=jkm I.ok I.cf i irs
  simp! [hfr]
  refine⟨_,jcm hq1,?_⟩
  simp only[hq2]
  intro D hD
  have plD:pl≠D:=je hpl hD
  refine jed (λv=>match v with|.str y=>.int (ρ y:Nat)|_=>.non) hq2 hD (by rw[Ad];have:=I.l3 i;omega) (λu hu l Q' q'=>?_) λv'=>?_
  ·obtain⟨y,hy,rfl⟩:=Ay.mp hu
   have hp2:upd H D (.lst l) pl=some (.dK kvs):=by rw[jd plD];exact hpl
   simp!
   exact⟨_,DGet.k' hp2 (k:=.inr y) (hρ y hy).1,q'⟩
  ·refine⟨D,_,rfl,jb,λt H1 ht fz k1=>⟨by omega,λp hp=>?_⟩⟩
   have k2:Kp [] H H1:=((Kp.refl [] H).new hD).trans k1
   have fz':FzT H1 t ((((F.getD i []).map ρ).map ik).map kV):=by
    rw[Ip]at fz
    rw[Ip,Ip]
    exact fz
   have k3:Kp [] H (upd H1 p (.tup [.int (i:Int),.ref t])):=k2.new hp
   have ka:KA (PKd.kt P w) (upd H1 p (.tup [.int (i:Int),.ref t])) (kk i ((F.getD i []).map ρ)) p:=⟨_,_,jb,rfl,t,rfl,fz'.kp0 ((Kp.refl [] H1).new hp)⟩
   generalize upd H1 p (.tup [.int (i:Int),.ref t])=H3 at k3 ka⊢
   have I3:=I.kp k3
   obtain⟨G,n,dp,kng⟩:=I3.kn
   have hil:i<(sms z.cps.toList rs).length:=by rw[jdf];exact irs
   refine⟨λσ H'=>σ=[some (.ref sy),some (.ref fr),some (.int (i:Int)),some (.str z),some (.ref pl),some (.ref kn),some (.ref p)]/\Kp [kn] H H'/\KI P w H' sy fr kn z rs zs F/\KA (PKd.kt P w) H' (kk i ((F.getD i []).map ρ)) p/\∃G n,DP (PKd.kt P w) H' kn G n/\G (kk i ((F.getD i []).map ρ))=some (.bl (sAt (sms z.cps.toList rs) i ρ)),?_,?_⟩
   ·simp!
    refine⟨_,_,dp,_,ka,?_⟩
    refine ite2 (λe=>?_) (λe=>?_)
    ·refine⟨sy,fr,kn,pl,i,z,rs,zs,F,kvs,ρ,rfl,I3,ik1,irs,k3.old _ _ hpl Ae,hkl,hρ,λH4 k4 I4=>?_⟩
     obtain⟨G4,n4,d4,g4⟩:=I4.kn
     have hS:∀b∈[kn],∃o,H3 b=some o/\∀ob u,o≠.frz ob u:=λb hb=>by
      obtain⟨φ,e⟩:=dp.ext
      rw[Ah.mp hb];exact⟨_,e,λ_ _ z=>by cases z⟩
     have ka4:=ka.keep (TKp.of k4 hS)
     have d4':=jqd d4 _ g4.mem
     have hkl4:=jns (n:=(sms z.cps.toList rs).length) I.zl I.l3
     have hrl:=I.rl
     rw[jdf]at hkl4 d4'
     refine⟨_,_,d4',by omega,_,ka4,λφ d5=>?_⟩
     obtain⟨φ4,e4⟩:=d4.ext
     have k5:Kp [kn] H4 (upd H4 kn (.ext φ)):=jfv (Kp.refl [kn] H4) e4 (λ_ z=>by cases z) (.inl (by simp))
     have hS4:∀b∈[kn],∃o,H4 b=some o/\∀ob u,o≠.frz ob u:=λb hb=>by
      rw[Ah.mp hb];exact⟨_,e4,λ_ _ z=>by cases z⟩
     refine⟨((k3.mono (by simp)).trans k4).trans k5,I4.set k5 d5 (g4.put hil (λy hy=>(hρ y hy).2) hd),ka4.keep (TKp.of k5 hS4),_,_,d5,Ap rfl⟩
    ·refine⟨k3.mono (by simp),I3,ka,G,n,dp,?_⟩
     cases eG:G (kk i ((F.getD i []).map ρ))with
     |none=>rw[eG]at e;exact absurd rfl e
     |some v=>rw[kng.get hd eG]
   rintro _ H4 ⟨rfl,k4,I4,ka4,G4,n4,d4,g4⟩
   simp!
   exact⟨_,_,d4,_,ka4,_,g4,q _ k4 I4⟩
end
theorem jpb(t:List Nat)(rs:List RS):∀u:List RS,∃v,sms t (rs++u)=sms t rs++v:=jlm ⟨[],by simp⟩ λl x ⟨v,hv⟩=>⟨v++[sm t (sms t (rs++l)) x],by rw[<-U4,jdg,hv,U4]⟩
theorem jjb(t:List Nat)(rs:List RS){n j:Nat}(hj:j<n)(hn:n<=rs.length):sAt (sms t (rs.take n)) j=sAt (sms t rs) j:=by
 obtain⟨v,hv⟩:=jpb t (rs.take n) (rs.drop n)
 rw[List.take_append_drop]at hv
 have hl:(sms t (rs.take n)).length=n:=by rw[jdf,A5];omega
 rw[hv]
 unfold sAt
 rw[Ak,Ak,Oj (by omega)]
theorem jpa{t:List Nat}{S S':List Sm}{zs:List Str}{k:Nat}(h:∀j,j<k->sAt S j=sAt S' j):∀{r:RS},r.ok zs k->sm t S r=sm t S' r
 |.yes,_=>rfl
 |.is _ _,_=>rfl
 |.ahead _ _,_=>rfl
 |.no j,ok=>by simp only[sm,h j ok]
 |.bin true i j,ok=>by simp only[sm,h i ok.1,h j ok.2]
 |.bin false i j,ok=>by simp only[sm,h i ok.1,h j ok.2]
 |.qn true x j,ok=>by simp only[sm,h j ok.2]
 |.qn false x j,ok=>by simp only[sm,h j ok.2]
theorem jp3{t:List Nat}{zs:List Str}{rs:List RS}{i:Nat}{r:RS}(ok:okR zs rs)(e:rs[i]?=some r):sAt (sms t rs) i=sm t (sms t rs) r:=by
 have hi:i<rs.length:=(Ag.mp e).1
 rw[<-jjb t rs (n:=i+1) (by omega) (by omega),jcp e,jdg]
 have hl:(sms t (rs.take i)).length=i:=by rw[jdf,A5];omega
 rw[show sAt (sms t (rs.take i)++[sm t (sms t (rs.take i)) r]) i=sm t (sms t (rs.take i)) r by
  have:=jfh (S:=sms t (rs.take i)) (f:=sm t (sms t (rs.take i)) r)
  rw[hl]at this;exact this]
 exact jpa (λj hj=>jjb t rs hj (by omega)) (ok i r e)
theorem iteX{c1 c2 A B X:Prop}[Decidable c1][Decidable c2](hX:(if c2 then A else B)->X)(h1:c1\/c2->A)(h2:¬c1->¬c2->B):if c1 then A else X:=by
 by_cases a:c1
 ·rw[Ap a];exact h1 (.inl a)
 ·rw[At a]
  refine hX ?_
  by_cases b:c2
  ·rw[Ap b];exact h1 (.inr b)
  ·rw[At b];exact h2 a b
theorem KI.kpD{P:Program}{w:World}{H H':Hp}{sy fr kn d:Addr}{z:Str}{rs:List RS}{zs:List Str}{F:List (List Str)}{kvs:List (L2.Key×V)}(I:KI P w H sy fr kn z rs zs F)(k:Kp [d] H H')(hd:H d=some (.dK kvs)):KI P w H' sy fr kn z rs zs F:=by
 obtain⟨us,h1,h2⟩:=I.sy
 obtain⟨ys,h3,h4⟩:=I.fr
 obtain⟨G,n,h5,h6⟩:=I.kn
 have nl:∀{b:Addr}{xs:List V},H b=some (.lst xs)->b∉[d]:=λe' z=>by rw[Ah.mp z,hd]at e';cases e'
 refine⟨⟨us,k.tup _ _ h1,h2.kp k⟩,⟨ys,k.old _ _ h3 (nl h3),Paired.mapP h4 λ_ _ ⟨q,e,n,g⟩=>⟨q,e,n,k.old _ _ g (nl g)⟩⟩,I.cf,I.ok,I.l3,I.zl,I.rl,⟨G,n,h5.keep k (λm=>?_) (λb hb=>?_),h6⟩⟩
 ·exact I.nl hd (λ_ z=>by cases z) (Ah.mp m).symm
 ·rw[Ah.mp hb];exact⟨_,hd,λ_ _ z=>by cases z⟩
theorem jpj{b:Bool}{m p:Nat}{f:Nat->Bool}(hp:p<m)(e:f p=b):bd b ((List.range m).map f)=b:=by
 cases b with
 |true=>exact O0.mpr ⟨f p,Ay.mpr ⟨p,Ub.mpr hp,rfl⟩,e⟩
 |false =>
  refine Ue.mpr λh=>?_
  have:=Yg.mp h (f p) (Ay.mpr ⟨p,Ub.mpr hp,rfl⟩)
  rw[show id (f p)=f p from rfl,e]at this;cases this
theorem jqc{b:Bool}{m:Nat}{f:Nat->Bool}(h:∀p,p<m->f p=!b):bd b ((List.range m).map f)=!b:=by
 cases b with
 |true =>
  refine Ue.mpr λh'=>?_
  obtain⟨x,hx,e⟩:=O0.mp h'
  obtain⟨p,hp,rfl⟩:=Ay.mp hx
  have:=h p (Ub.mp hp)
  rw[show id (f p)=f p from rfl,this]at e;cases e
 |false =>
  refine Yg.mpr λx hx=>?_
  obtain⟨p,hp,rfl⟩:=Ay.mp hx
  exact h p (Ub.mp hp)
theorem jkf(b:Bool)(x:Str)(j:Nat):decide (hd (.qn b x j)=Str.ofString "some")=b:=by
 cases b
 ·exact Ir (show ¬hdw 7=Str.ofString "some"by decide +kernel)
 ·exact Ol rfl
theorem jo4(b:Bool)(x:Str)(j:Nat):decide (hd (.qn b x j)=Str.ofString "each")=!b:=by
 cases b
 ·exact Ol rfl
 ·exact Ir (show ¬hdw 6=Str.ofString "each"by decide +kernel)
theorem jpk(b:Bool)(i j:Nat):decide (hd (.bin b i j)=Str.ofString "or")=!b:=by
 cases b
 ·exact Ol rfl
 ·exact Ir (show ¬hdw 4=Str.ofString "or"by decide +kernel)
theorem jor(b:Bool)(i j:Nat):¬hd (.bin b i j)=Str.ofString "not":=by
 cases b
 ·exact(show ¬hdw 5=Str.ofString "not"by decide +kernel)
 ·exact(show ¬hdw 4=Str.ofString "not"by decide +kernel)
theorem jmr{r:RS}(e0:hd r≠Str.ofString "yes")(e1:hd r≠Str.ofString "is")(e2:hd r≠Str.ofString "ahead")(e3:hd r≠Str.ofString "some")(e4:hd r≠Str.ofString "each"):(∃j,r=.no j)\/∃b i j,r=.bin b i j:=by
 cases r with
 |bin b i j=>exact .inr ⟨b,i,j,rfl⟩
 |yes=>exact absurd rfl e0
 |is=>exact absurd rfl e1
 |ahead=>exact absurd rfl e2
 |no j=>exact .inl ⟨j,rfl⟩
 |qn b=>cases b <;> first|exact absurd rfl e4|exact absurd rfl e3
structure TSd(mg:Str->Option Value)(ft:Addr):Prop where
 n_dict:mg "dict"=none
 n_range:mg "range"=none
 n_len:mg "len"=none
 m1z:mg "_law_true"=some (.ref ft)
section
variable{P:Program}{w:World}{K:PySem.W.Frag}{mg:Str->Option Value}{base:Heap}
theorem zh:FnScope ["_law_saying","_law_frees_here","_law_at","_law_text_here","_law_places_here","_law_known","_law_row","_law_within","_law_place","_law_one","_law_other"] ["_law_saying","_law_frees_here","_law_at","_law_text_here","_law_places_here","_law_known"] (jh yv):=⟨rfl,rfl,rfl,by decide +kernel,rfl,by decide +kernel,by decide +kernel⟩
theorem ok__law_said{k:Nat}{f ft:Addr}{fd fdt:FuncData}(F0:Fun K "_law_said" "_law_said" yv f fd)(T:TSd mg ft)(F1z:Fun K "_law_true" "_law_true" yb ft fdt)(b1z:Binds K fdt ["_law_saying","_law_frees_here","_law_at","_law_text_here","_law_places_here","_law_known"] [])
  (G1z:FnOk P w K mg base CX0 (2*k+1) ft fdt ["_law_saying","_law_frees_here","_law_at","_law_text_here","_law_places_here","_law_known"] (spTr P w k)):FnOk P w K mg base CX0 (2*k+1+1) f fd ["_law_saying","_law_frees_here","_law_at","_law_text_here","_law_places_here","_law_known"] (spTr P w (k+1)):=by
 refine F0.ok zh (λvs H Q E h=>?_) (λcdv A outer s H vs Q E hr h=>?_)
 ·obtain⟨sy,fr,kn,pl,i,z,rs,zs,F,kvs,ρ,rfl,_⟩:=h
  rfl
 ·obtain⟨sy,fr,kn,pl,i,z,rs,zs,F,kvs,ρ,rfl,I,ik1,irs,hpl,hkl,hρ,q⟩:=h
  have hu:=hr.units
  have hsz:sizeLine=16777216:=Aq
  have hu1:(A.deeper (PyProof.Rows.envOfC (Str.ofString "_law_said") (jh yv) s.heap.objs.size f cdv)).units+1<cLine:=by omega
  refine exQ (jg (jl (i:=6) zh.nd rfl (by first|exact Or.inl rfl|exact Or.inr rfl) (jk ix_U (qpv 0) (qpv 2) (λ_ _=>rfl)))
  (jz (j0 (jn (j3 hu) (jk ix_U (qpv 6) jf (λ_ _=>rfl)) jm (jr _)) (ji (jp ja2)) ju)
  (jz (j0 (jn (j3 hu) (jk ix_U (qpv 6) jf (λ_ _=>rfl)) jm (jr _)) (ji (jp (y4 (j3 hu) (jk ix_U (qpv 3) (jak hu1 (qpv 4) (jk ix_U (qpv 6) jf (λ_ _=>rfl)) (λ_ _=>rfl)) (λ_ _=>rfl)) (jk ix_U (qpv 6) jf (λ_ _=>rfl)) (jr _)))) ju)
  (jz (j0 (jn (j3 hu) (jk ix_U (qpv 6) jf (λ_ _=>rfl)) jm (jr _)) (ji (jp (y4 jab (jak hu1 (qpv 4) (jk ix_U (qpv 6) jf (λ_ _=>rfl)) (λ_ _=>rfl)) (jak hu1 (qpv 4) (jk ix_U (qpv 6) jf (λ_ _=>rfl)) (λ_ _=>rfl)) (jr _)))) ju)
  (jz (j0 (QW.pt (jal (jn (j3 hu) (jk ix_U (qpv 6) jf (λ_ _=>rfl)) jm (jr _)) (z8 (jn (j3 hu) (jk ix_U (qpv 6) jf (λ_ _=>rfl)) jm (jr _))))) (jg (jl (i:=7) zh.nd rfl (by first|exact Or.inl rfl|exact Or.inr rfl) (ki (jag rfl hu) (by rfl) T.n_dict ja3 (ja (qpv 4) jc)))
  (jg (yp Iv rfl (yu rfl T.n_range (ja (jv j6 (by rfl) T.n_len kc (ja (qpv 3) jc)) jc)) (jt (i:=8) zh.nd rfl (by first|exact Or.inl rfl|exact Or.inr rfl)) (jg (qps_dput hu1 (qpv 7) (jk ix_U (qpv 6) jf (λ_ _=>rfl)) (qpv 8) rfl)
  (ji (j0 (jn (j3 hu) (jj G1z (hr.mono (by omega)) rfl T.m1z F1z.kp b1z .nil jo (ja (qpv 0) (ja (qpv 1) (ja (jk ix_U (qpv 6) jf (λ_ _=>rfl)) (ja (qpv 3) (ja (qpv 7) (ja (qpv 5) jc))))))) (y4 (j3 hu) (jk ix_U (qpv 6) jf (λ_ _=>rfl)) jm (jr _)) (jr _)) (ji (jp (y4 (j3 hu) (jk ix_U (qpv 6) jf (λ_ _=>rfl)) jm (jr _)))) ju))))
  (ji (jp (y4 (j3 hu) (jk ix_U (qpv 6) jf (λ_ _=>rfl)) jm (jr _)))))) ju)
  (jg (jl (i:=9) zh.nd rfl (by first|exact Or.inl rfl|exact Or.inr rfl) (jj G1z (hr.mono (by omega)) rfl T.m1z F1z.kp b1z .nil jo (ja (qpv 0) (ja (qpv 1) (ja (jk ix_U (qpv 6) jf (λ_ _=>rfl)) (ja (qpv 3) (ja (qpv 4) (ja (qpv 5) jc))))))))
  (jz (j0 (jn (j3 hu) (jk ix_U (qpv 6) jf (λ_ _=>rfl)) jm (jr _)) (ji (jp (jb7 (qpv 9)))) ju)
  (jg (jl (i:=10) zh.nd rfl (by first|exact Or.inl rfl|exact Or.inr rfl) (jj G1z (hr.mono (by omega)) rfl T.m1z F1z.kp b1z .nil jo (ja (qpv 0) (ja (qpv 1) (ja (jk ix_U (qpv 6) jf (λ_ _=>rfl)) (ja (qpv 3) (ja (qpv 4) (ja (qpv 5) jc))))))))
  (ji (jp (jbu (jau (qpv 9) (z6 (qpv 10))) (z6 (jau (y4 (j3 hu) (jk ix_U (qpv 6) jf (λ_ _=>rfl)) jm (jr _)) (z6 (jbu (qpv 9) (z6 (qpv 10))))))))))))))))) ?_
  obtain⟨us,hsy,ra⟩:=I.sy
  have hul:us.length=rs.length:=Au ra
  obtain⟨r,c,hri,hci,hc⟩:=ra.get (Am (by omega:i<us.length))
  simp! [hsy]
  refine⟨_,jcm (Am (by omega:i<us.length)),?_⟩
  rw[hci]
  have okr:=I.ok i r hri
  have cn:=I.cf.at_ i r hri
  rw[jp3 I.ok hri]at q
  obtain⟨σ0,hσ⟩:∃σ0:L2.St,σ0=[some (.ref sy),some (.ref fr),some (.int (i:Int)),some (.str z),some (.ref pl),some (.ref kn),some (.ref c),none,none,none,none]:=⟨_,rfl⟩
  rw[<-hσ]
  refine⟨λσ' H'=>σ'=σ0/\H'=H/\hd r≠Str.ofString "yes",?_,?_⟩
  ·rw[hσ]
   simp! [hc]
   refine⟨_,jcq r,?_⟩
   simp!
   refine ite2 (λe=>?_) (λe=>e)
   have e0:=jme e
   subst e0
   exact q H (Kp.refl _ _) I
  rintro σ' H' ⟨e1,e2,n0⟩
  rw[e1,e2]
  refine⟨λσ' H'=>σ'=σ0/\H'=H/\hd r≠Str.ofString "is",?_,?_⟩
  ·rw[hσ]
   simp! [hc]
   refine⟨_,jcq r,?_⟩
   simp!
   refine ite2 (λe=>?_) (λe=>e)
   obtain⟨y,a,rfl⟩:=jhr e
   obtain⟨hv,hlt⟩:=hρ y ((cn.me y).mpr (by simp[fm]))
   simp! [hc]
   refine⟨_,jcg (by decide) rfl,?_⟩
   refine⟨_,DGet.k' (k:=.inr y) hpl hv,?_⟩
   have hzl:z.cps.toList.length=z.length:=by simp[Str.length]
   have hz10:=I.zl
   refine⟨by omega,z.cps.toList.getD (ρ y) 0,jcm (by rw[Ak,Am (by omega)];rfl),_,by rw[hc];rfl,_,jcg (by decide) rfl,?_⟩
   exact q H (Kp.refl _ _) I
  rintro σ' H' ⟨e1,e2,n1⟩
  rw[e1,e2]
  refine⟨λσ' H'=>σ'=σ0/\H'=H/\hd r≠Str.ofString "ahead",?_,?_⟩
  ·rw[hσ]
   simp! [hc]
   refine⟨_,jcq r,?_⟩
   simp!
   refine ite2 (λe=>?_) (λe=>e)
   obtain⟨y,a,rfl⟩:=jdr e
   obtain⟨hv,hlt⟩:=hρ y ((cn.me y).mpr (by simp[fm]))
   obtain⟨hv2,hlt2⟩:=hρ a ((cn.me a).mpr (by simp[fm]))
   simp! [hc]
   refine⟨_,jcg (by decide) rfl,?_⟩
   exact⟨_,DGet.k' (k:=.inr y) hpl hv,_,jcg (by decide) rfl,_,DGet.k' (k:=.inr a) hpl hv2,by
    have:=q H (Kp.refl _ _) I
    simp!
    rw[show decide ((ρ y:Int)<(ρ a:Int))=decide (ρ y<ρ a)by simp]
    exact this⟩
  rintro σ' H' ⟨e1,e2,n2⟩
  rw[e1,e2]
  refine⟨λσ' H'=>σ'=σ0/\H'=H/\hd r≠Str.ofString "some"/\hd r≠Str.ofString "each",?_,?_⟩
  ·rw[hσ]
   simp! [hc]
   refine⟨_,jcq r,?_⟩
   simp! [hc]
   refine iteX (c2:=hd r=Str.ofString "each") (B:=hd r≠Str.ofString "some"/\hd r≠Str.ofString "each") (λh=>⟨_,jcq r,?_⟩) (λh=>?_) (λh1 h2=>⟨h1,h2⟩)
   ·simp!
    exact h
   obtain⟨b,x,j,rfl⟩:∃b x j,r=.qn b x j:=h.elim jgd jgc
   have okj:j<i:=okr.2
   refine rDictK.copy hpl λd hd0=>⟨by have:=I.zl;omega,by have:=I.zl;omega,by have:=I.zl;omega,?_⟩
   have k0:Kp [] H (upd H d (.dK kvs)):=(Kp.refl [] H).new hd0
   refine jcv (λn σ H'=>∃(v:Option V)(kvs':List (L2.Key×V)),σ=[some (.ref sy),some (.ref fr),some (.int (i:Int)),some (.str z),some (.ref pl),some (.ref kn),some (.ref c),some (.ref d),v,none,none]/\Kp [kn] H H'/\KI P w H' sy fr kn z rs zs F/\H' d=some (.dK kvs')/\kvs'.length<=kvs.length+n/\(∀y,y≠x->valV kvs' (.inr y)=valV kvs (.inr y))/\∀p,p<n->sAt (sms z.cps.toList rs) j (up ρ x p)=!b) ?_ ?_ ?_
   ·exact⟨none,kvs,rfl,k0.mono (by simp),I.kp k0,jb,by omega,λ_ _=>rfl,λp hp=>absurd hp (Wh _)⟩
   ·rintro n σ H1 hn ⟨v,kvs',rfl,k1,I1,e1,l1,v1,s1⟩
    have hc1:=k1.tup _ _ hc
    simp! [hc1]
    have hi100:=I.rl
    have hn':n<z.length:=by omega
    have hz10:=I.zl
    refine⟨_,jcg (by decide) rfl,_,DPut.k (k:=.inr x) e1 (by omega),?_⟩
    have kd:Kp [d] H1 (upd H1 d (.dK (putK kvs' (.inr x) (.int (0+(n:Int)))))):=jfv (Kp.refl [d] H1) e1 (λ_ z=>by cases z) (.inl (by simp))
    have k2:Kp [kn] H (upd H1 d (.dK (putK kvs' (.inr x) (.int (0+(n:Int)))))):=jfv k1 e1 (λ_ z=>by cases z) (.inr hd0)
    have e2:upd H1 d (.dK (putK kvs' (.inr x) (.int (0+(n:Int))))) d=some (.dK (putK kvs' (.inr x) (.int (0+(n:Int))))):=jb
    have I2:=I1.kpD kd e1
    have pl2:=jdh kvs' (.inr x) (.int (0+(n:Int)))
    generalize upd H1 d (.dK (putK kvs' (.inr x) (.int (0+(n:Int)))))=H2 at kd k2 e2 I2⊢
    refine⟨_,by rw[k2.tup _ _ hc];rfl,_,jcg (by decide) rfl,sy,fr,kn,d,j,z,rs,zs,F,_,up ρ x n,rfl,I2,by omega,by omega,e2,by omega,λy hy=>?_,λH3 k3 I3=>?_⟩
    ·rw[jjp]
     by_cases yx:y=x
     ·rw[yx,Ap rfl,up,Ap rfl,Int.zero_add];exact⟨rfl,hn'⟩
     ·rw[At (λe=>yx (Sum.inr.inj e)),up,At yx,v1 y yx]
      exact hρ y ((cn.me y).mpr (Uz.mpr ⟨hy,by simpa using yx⟩))
    have k4:=k2.trans k3
    have hc3:=k4.tup _ _ hc
    have e3:=k3.old _ _ e2 (by simpa using I2.nl e2 λ_ z=>by cases z)
    simp! [hc3]
    refine⟨_,jcq _,?_⟩
    simp! [hc3,jkf]
    refine ite2 (λe=>⟨_,jcq _,?_⟩) (λe=>⟨k4,I3,_,e3,by omega,λy yx=>?_,λp hp=>?_⟩)
    ·simp! [jkf]
     have:=q H3 k4 I3
     rw[show sm z.cps.toList (sms z.cps.toList rs) (.qn b x j) ρ=b by rw[jll];exact jpj (p:=n) (by simpa[Str.length]using hn') e]at this
     exact this
    ·rw[jjp,At (λe=>yx (Sum.inr.inj e))];exact v1 y yx
    ·by_cases pn:p=n
     ·rw[pn];exact Bool.eq_not_of_ne e
     ·exact s1 p (by omega)
   ·rintro σ H1 ⟨v,kvs',rfl,k1,I1,e1,l1,v1,s1⟩
    have hc1:=k1.tup _ _ hc
    simp! [hc1]
    refine⟨_,jcq _,?_⟩
    simp! [jo4]
    have:=q H1 k1 I1
    rw[show sm z.cps.toList (sms z.cps.toList rs) (.qn b x j) ρ=!b by rw[jll];exact jqc (λp hp=>s1 p (by simpa[Str.length]using hp))]at this
    exact this
  rintro σ' H' ⟨e1,e2,n3,n4⟩
  rw[e1,e2,hσ]
  simp! [hc]
  rcases jmr n0 n1 n2 n3 n4 with⟨j,rfl⟩|⟨b,j,l,rfl⟩
  ·have okj:j<i:=okr
   refine⟨_,jcg (by decide) rfl,sy,fr,kn,pl,j,z,rs,zs,F,kvs,ρ,rfl,I,by omega,by omega,hpl,by omega,λy hy=>hρ y ((cn.me y).mpr hy),λH1 k1 I1=>?_⟩
   have hc1:=k1.tup _ _ hc
   refine⟨λ_ _=>False,?_,λ_ _ h=>h.elim⟩
   simp! [hc1]
   refine⟨_,jcq _,?_⟩
   simp!
   rw[Ap (show hd (.no j)=Str.ofString "not"from rfl)]
   exact q H1 k1 I1
  ·obtain⟨okj,okl⟩:j<i/\l<i:=okr
   refine⟨_,jcg (by decide) rfl,sy,fr,kn,pl,j,z,rs,zs,F,kvs,ρ,rfl,I,by omega,by omega,hpl,by omega,λy hy=>hρ y ((cn.me y).mpr (Is.mpr (.inl hy))),λH1 k1 I1=>?_⟩
   have hc1:=k1.tup _ _ hc
   refine⟨λσ' H'=>σ'=[some (.ref sy),some (.ref fr),some (.int (i:Int)),some (.str z),some (.ref pl),some (.ref kn),some (.ref c),none,none,some (.bl (sAt (sms z.cps.toList rs) j ρ)),none]/\H'=H1,?_,?_⟩
   ·simp! [hc1]
    refine⟨_,jcq _,?_⟩
    simp!
    rw[At (jor b j l)]
    trivial
   rintro _ _ ⟨rfl,rfl⟩
   simp! [hc1]
   refine⟨_,jcg (by decide) rfl,sy,fr,kn,pl,l,z,rs,zs,F,kvs,ρ,rfl,I1,by omega,by omega,k1.old _ _ hpl (by simpa using I.nl hpl λ_ z=>by cases z),by omega,λy hy=>hρ y ((cn.me y).mpr (Is.mpr (.inr hy))),λH2 k2 I2=>?_⟩
   have hc2:=k2.tup _ _ hc1
   have:=q H2 (k1.trans k2) I2
   have ask:∀{Q':VK},Q' (.bl (!b)) H2->∃v,atI (rowV (.bin b j l)) 0=some v/\rEqU v (V.str (Str.ofString "or")) H2 Q':=λh=>⟨_,jcq _,by simp!;rw[jpk];exact h⟩
   rw[show sm z.cps.toList (sms z.cps.toList rs) (.bin b j l) ρ=(if b then sAt (sms z.cps.toList rs) j ρ && sAt (sms z.cps.toList rs) l ρ else sAt (sms z.cps.toList rs) j ρ || sAt (sms z.cps.toList rs) l ρ)by cases b <;> rfl]at this
   simp! [hc2]
   generalize sAt (sms z.cps.toList rs) j ρ=u at this⊢
   generalize sAt (sms z.cps.toList rs) l ρ=v at this⊢
   refine ite2 (λhu'=>ite2 (λhv'=>?_) (λhv'=>ask ⟨_,rfl,?_⟩)) (λhu'=>ask ⟨_,rfl,?_⟩)
   ·rw[hu',hv']at this;cases b <;> exact this
   ·rw[Ue.mpr hv',hu']at this;rw[Ue.mpr hv',hu'];cases b <;> exact this
   ·rw[Ue.mpr hu']at this;rw[Ue.mpr hu'];cases b
    ·exact this
    ·exact this
end
structure AsK(z:Str)(rs:List RS)(zs:List Str)(kvs:List (L2.Key×Int))(ρ:Str->Nat):Prop where
 ok:okR zs rs
 zl:zs.length<=26
 n1:1<=rs.length
 n9:rs.length<=60
 okz:OkS zs
 hz:z.length<=10
 l3:Le3 zs rs
 nd:(kvs.map Prod.fst).Nodup
 kl:kvs.length<=1000
 at_:∀F,CF zs F rs->∀y∈F.getD (rs.length-1) [],valV (kvs.map kI) (.inr y)=some (.int (ρ y:Nat))/\ρ y<z.length
theorem bdm3{m n:Nat}(hm:m<=10)(hn:n<=3):Bdm m n:=⟨by omega,λj hj=>Io (Nat.pow_le_pow_left hm j) (Io (Nat.pow_le_pow_right (by decide) (by omega:j<=4)) (by decide))⟩
theorem jfu{H H2 H3:Hp}{d:Addr}(k:Kp [] H H2)(k3:Kp [d] H2 H3)(hd:H d=none):Kp [] H H3:=⟨λc o e _=>k3.old _ _ (k.old _ _ e Ae) (by simp only[Ah];intro z;rw[z,hd]at e;cases e),λc ys e=>k3.tup _ _ (k.tup _ _ e),λc o e=>by obtain⟨o',e'⟩:=k.dom _ _ e;exact k3.dom _ _ e'⟩
def jlq:Sp:=λvs H Q _=>∃(sy pl:Addr)(z:Str)(us:List V)(rs:List RS)(zs:List Str)(kvs:List (L2.Key×Int))(ρ:Str->Nat),vs=[.ref sy,.str z,.ref pl]/\H sy=some (.tup us)/\RowsAt H us rs/\AsK z rs zs kvs ρ/\H pl=some (.dK (kvs.map kI)) /\
 ∀H',Kp [] H H'->Q (.bl (sAt (sms z.cps.toList rs) (rs.length-1) ρ)) H'
structure TDu(mg:Str->Option Value)(ft ff:Addr):Prop where
 n_len:mg "len"=none
 m1z:mg "_law_true"=some (.ref ft)
 m2z:mg "_law_frees"=some (.ref ff)
def spMe:Sp:=λvs H Q _=>∃(sy pl:Addr)(z:Str)(us:List V)(rs:List RS)(zs:List Str)(kvs:List (L2.Key×Int))(ρ:Str->Nat),vs=[.ref sy,.str z,.ref pl]/\H sy=some (.tup us)/\RowsAt H us rs/\AsK z rs zs kvs ρ/\H pl=some (.dK (kvs.map kI)) /\
 ∀H',Kp [] H H'->Q (.bl true) H'
structure TMe(K:PySem.W.Frag)(mg:Str->Option Value)(fh fe:Addr):Prop where
 n_dict:mg "dict"=none
 n_isinstance:mg "isinstance"=none
 n_bool:mg "bool"=none
 isb:PySem.W.kitOne K (.type "bool") (.type "bool")=some true
 m4z:mg "holds"=some (.ref fh)
 m5z:mg "_law_due"=some (.ref fe)
section
variable{P:Program}{w:World}{K:PySem.W.Frag}{mg:Str->Option Value}{base:Heap}
theorem jaz{ft fs:Addr}{fdt fds:FuncData}(F1z:Fun K "_law_true" "_law_true" yb ft fdt)(F9z:Fun K "_law_said" "_law_said" yv fs fds)(b1z:Binds K fdt ["_law_saying","_law_frees_here","_law_at","_law_text_here","_law_places_here","_law_known"] [])(b9z:Binds K fds ["_law_saying","_law_frees_here","_law_at","_law_text_here","_law_places_here","_law_known"] [])(Tt:TTr mg fs)(Ts:TSd mg ft) :
  ∀k:Nat,FnOk P w K mg base CX0 (2*k+1) ft fdt ["_law_saying","_law_frees_here","_law_at","_law_text_here","_law_places_here","_law_known"] (spTr P w k)
 |0=>F1z.ok (k:=0) jan (λvs H Q E h=>by obtain⟨_,_,_,_,_,_,_,_,_,_,_,_,_,h,_⟩:=h;exact absurd h (Wh _)) (λcdv A outer s H vs Q E hr h=>by obtain⟨_,_,_,_,_,_,_,_,_,_,_,_,_,h,_⟩:=h;exact absurd h (Wh _))
 |k+1=>ok__law_true F1z Tt F9z b9z (ok__law_said F9z Ts F1z b1z (jaz F1z F9z b1z b9z Tt Ts k))
abbrev y9:Stmt:=top 29
theorem sc__law_due:FnScope ["_law_saying","_law_text_here","_law_places_here"] ["_law_saying","_law_text_here","_law_places_here"] (jh y9):=⟨rfl,rfl,rfl,by decide +kernel,rfl,by decide +kernel,by decide +kernel⟩
theorem ok__law_due{f ft ff:Addr}{fd fdt fdf:FuncData}(F0:Fun K "_law_due" "_law_due" y9 f fd)(T:TDu mg ft ff)(F1z:Fun K "_law_true" "_law_true" yb ft fdt)(b1z:Binds K fdt ["_law_saying","_law_frees_here","_law_at","_law_text_here","_law_places_here","_law_known"] [])(G1z:FnOk P w K mg base CX0 123 ft fdt ["_law_saying","_law_frees_here","_law_at","_law_text_here","_law_places_here","_law_known"] (spTr P w 61))
  (F2z:Fun K "_law_frees" "_law_frees" yk ff fdf) (b2z:Binds K fdf ["_law_saying"] []) (G2z:FnOk P w K mg base CX0 2 ff fdf ["_law_saying"] spFs):FnOk P w K mg base CX0 124 f fd ["_law_saying","_law_text_here","_law_places_here"] jlq:=by
 refine F0.ok sc__law_due (λvs H Q E h=>?_) (λcdv A outer s H vs Q E hr h=>?_)
 ·obtain⟨sy,pl,z,us,rs,zs,kvs,ρ,rfl,_⟩:=h
  rfl
 ·obtain⟨sy,pl,z,us,rs,zs,kvs,ρ,rfl,hsy,ra,as,hpl,q⟩:=h
  have hu:=hr.units
  have hsz:sizeLine=16777216:=Aq
  have hul:us.length=rs.length:=Au ra
  have n1:=as.n1
  have n9:=as.n9
  refine exQ (ji (jp (jj G1z (hr.mono (by omega)) rfl T.m1z F1z.kp b1z .nil jo (ja (qpv 0) (ja (jj G2z (hr.mono (by omega)) rfl T.m2z F2z.kp b2z .nil jo (ja (qpv 0) jc)) (ja (jq jac (jv j6 (by rfl) T.n_len kc (ja (qpv 0) jc)) jf) (ja (qpv 1) (ja (qpv 2) (ja (jbw (κ:=PKd.kt P w) rfl rfl) jc))))))))) ?_
  simp!
  refine⟨sy,us,rs,zs,[],rfl,.inr hsy,ra,as.ok,as.zl,by omega,by simp,λp ys F H1 hp k1 e1 fl cf=>?_⟩
  have hsy1:=k1.tup _ _ hsy
  simp! [hsy1]
  intro d φ hd dp
  have k2:Kp [] H1 (upd H1 d (.ext φ)):=(Kp.refl [] H1).new hd
  have e2:=k2.old _ _ e1 Ae
  have hsy2:=k2.tup _ _ hsy1
  generalize upd H1 d (.ext φ)=H2 at k2 dp e2 hsy2⊢
  have I:KI P w H2 sy p d z rs zs F:=⟨⟨us,hsy2,ra.kp (k1.trans k2)⟩,⟨ys,e2,Paired.mapP (fl.kp (by simp) k2) λ_ _ ⟨q,e,n,g⟩=>⟨q,e,by simp,g⟩⟩,cf,as.ok,as.l3.all cf,as.hz,by omega,⟨_,_,dp,⟨λk v e=>by cases e⟩⟩⟩
  refine⟨sy,p,d,pl,rs.length-1,z,rs,zs,F,kvs.map kI,ρ,by rw[hul,show((rs.length:Int)-1)=((rs.length-1:Nat):Int)by omega],I,by omega,by omega,(k1.trans k2).old _ _ hpl Ae,by have:=as.kl;rw[Ad];omega,as.at_ F cf,λH3 k3 I3=>?_⟩
  exact q H3 (jfu (k1.trans k2) k3 (k1.free hd))
abbrev y6:Stmt:=top 32
theorem jaf:FnScope ["_law_saying","_law_text_here","_law_places_here","_law_handed","_law_found"] ["_law_saying","_law_text_here","_law_places_here"] (jh y6):=⟨rfl,rfl,rfl,by decide +kernel,rfl,by decide +kernel,by decide +kernel⟩
theorem ok__law_meets{f fh fe:Addr}{fd fdh fde:FuncData}(F0:Fun K "_law_meets" "_law_meets" y6 f fd)(T:TMe K mg fh fe)(F4z:Fun K "holds" "holds" zq fh fdh)(b4z:Binds K fdh ["saying","text","places"] [])(G4z:FnOk P w K mg base CX0 6 fh fdh ["saying","text","places"] spHo)
  (F5z:Fun K "_law_due" "_law_due" y9 fe fde) (b5z:Binds K fde ["_law_saying","_law_text_here","_law_places_here"] []) (G5z:FnOk P w K mg base CX0 124 fe fde ["_law_saying","_law_text_here","_law_places_here"] jlq):FnOk P w K mg base CX0 125 f fd ["_law_saying","_law_text_here","_law_places_here"] spMe:=by
 refine F0.ok jaf (λvs H Q E h=>?_) (λcdv A outer s H vs Q E hr h=>?_)
 ·obtain⟨sy,pl,z,us,rs,zs,kvs,ρ,rfl,_⟩:=h
  rfl
 ·obtain⟨sy,pl,z,us,rs,zs,kvs,ρ,rfl,hsy,ra,as,hpl,q⟩:=h
  have hu:=hr.units
  have hsz:sizeLine=16777216:=Aq
  refine exQ (jg (jl (i:=3) jaf.nd rfl (by first|exact Or.inl rfl|exact Or.inr rfl) (ki (jag rfl hu) (by rfl) T.n_dict ja3 (ja (qpv 2) jc)))
  (jg (jl (i:=4) jaf.nd rfl (by first|exact Or.inl rfl|exact Or.inr rfl) (jj G4z (hr.mono (by omega)) rfl T.m4z F4z.kp b4z .nil jo (ja (qpv 0) (ja (qpv 1) (ja (qpv 3) jc)))))
  (ji (jp (jau (jv (jaj (K:=K) rfl) (by rfl) T.n_isinstance jax (ja (qpv 4) (ja (jbt (v:=.ty "bool") rfl T.n_bool bt_bool rfl) jc))) (jau (y4 (j3 hu) (qpv 4) (jj G5z (hr.mono (by omega)) rfl T.m5z F5z.kp b5z .nil jo (ja (qpv 0) (ja (qpv 1) (ja (qpv 2) jc)))) (jr _)) (z6 (y4 (op_eqK hu) (qpv 3) (qpv 2) (jr _))))))))) ?_
  simp!
  refine rDictK.copy hpl λp hp=>?_
  have k1:Kp [] H (upd H p (.dK (kvs.map kI))):=(Kp.refl [] H).new hp
  have e1:upd H p (.dK (kvs.map kI)) p=_:=jb
  generalize upd H p (.dK (kvs.map kI))=H1 at k1 e1⊢
  refine⟨sy,p,z,us,rs,zs,kvs.map kI,ρ,rfl,k1.tup _ _ hsy,ra.kp k1,as.ok,as.zl,as.n1,by have:=as.n9;omega,as.okz,by have:=as.hz;omega,e1,λF cf=>⟨λk _=>bdm3 as.hz (as.l3.all cf k),as.at_ F cf⟩,λH3 k3=>?_⟩
  have k13:=k1.trans k3
  refine⟨_,.bl _,_,T.isb,?_⟩
  rw[Ap rfl]
  refine⟨sy,pl,z,us,rs,zs,kvs,ρ,rfl,k13.tup _ _ hsy,ra.kp k13,as,k13.old _ _ hpl Ae,λH4 k4=>?_⟩
  have k14:=k13.trans k4
  refine⟨_,rfl,?_⟩
  rw[Ol rfl,Ap rfl]
  exact⟨kvs,as.nd,k4.old _ _ (k3.old _ _ e1 Ae) (by simp),k14.old _ _ hpl Ae,q _ k14⟩
end
def jht(H:Hp)(l:Addr):Nat:=match H l with|some (.lst xs)=>xs.length|_=>0
def Good(zs:List Str)(rs:List RS):Prop:=okR zs rs/\Le3 zs rs
theorem Good.qn{zs:List Str}{rs:List RS}(h:Good zs rs)(h1:1<=rs.length)(b:Bool){x:Str}(hx:x∈zs):Good zs (rs++[.qn b x (rs.length-1)]):=by
 obtain⟨ok,le⟩:=h
 have hr:(RS.qn b x (rs.length-1)).ok zs rs.length:=⟨hx,by omega⟩
 exact⟨ok.snoc hr,le.snoc (ok.snoc hr) λF cF l cl=>cl.le3 (m:=F.getD (rs.length-1) []) (λy hy=>(Uz.mp hy).1) (le.all cF _)⟩
def jm3:Sp:=λvs H Q _=>∃(b p:Addr)(zs:List Str)(us:List V)(rs:List RS)(o:HO),vs=[.ref b,.ref p]/\H b=some o/\BoxO o/\H p=some (.tup us)/\RowsAt H us rs/\Good zs rs/\1<=rs.length/\rs.length<=60/\zs.length<=26 /\
 ∀(q:Addr)(us':List V)(rs':List RS)(o':HO)(H':Hp),1<=rs'.length->rs'.length<=rs.length+3->RowsAt H' us' rs'->Good zs rs'->H q=none->H' q=some (.tup us')->BoxO o'->H' b=some o'->Kp [b] H H'->Q (.ref q) H'
structure TSh(mg:Str->Option Value)(ft ff:Addr):Prop where
 n_len:mg "len"=none
 n_list:mg "list"=none
 n_tuple:mg "tuple"=none
 m0z:mg "_law_take"=some (.ref ft)
 m2z:mg "_law_frees"=some (.ref ff)
section
variable{P:Program}{w:World}{K:PySem.W.Frag}{mg:Str->Option Value}{base:Heap}
abbrev zf:Stmt:=top 26
theorem z0:FnScope ["_law_box_here","_law_rows","_law_found","_law_left","_law_word"] ["_law_box_here","_law_rows"] (jh zf):=⟨rfl,rfl,rfl,by decide +kernel,rfl,by decide +kernel,by decide +kernel⟩
theorem ok__law_shut{f ft ff:Addr}{fd fdt fdf:FuncData}(F:Fun K "_law_shut" "_law_shut" zf f fd)(T:TSh mg ft ff)(F0z:Fun K "_law_take" "_law_take" j7 ft fdt)(b0z:Binds K fdt ["_law_box_here","_law_wide"] [])
  (G0z:FnOk P w K mg base CX0 1 ft fdt ["_law_box_here","_law_wide"] jc7) (F2z:Fun K "_law_frees" "_law_frees" yk ff fdf) (b2z:Binds K fdf ["_law_saying"] [])
  (G2z:FnOk P w K mg base CX0 2 ff fdf ["_law_saying"] spFs):FnOk P w K mg base CX0 3 f fd ["_law_box_here","_law_rows"] jm3:=by
 refine F.ok z0 (λvs H Q E h=>?_) (λcdv A outer s H vs Q E hr h=>?_)
 ·obtain⟨b,p,zs,us,rs,o,rfl,_⟩:=h
  rfl
 ·obtain⟨b,p,zs,us,rs,o,rfl,hb,ho,hp,ra,gd,l1,l2,hz,k⟩:=h
  have hu:=hr.units
  have hsz:sizeLine=16777216:=Aq
  have hul:us.length=rs.length:=Au ra
  refine⟨_,(QSs.h (jg (jl (i:=2) z0.nd rfl (by first|exact Or.inl rfl|exact Or.inr rfl) (ki (jah rfl) (by rfl) T.n_list ja4 (ja (qpv 1) jc)))
  (jg (jl (i:=3) z0.nd rfl (by first|exact Or.inl rfl|exact Or.inr rfl) (ki (jah rfl) (by rfl) T.n_list ja4 (ja (jk ix_U (jj G2z (hr.mono (by decide)) rfl T.m2z F2z.kp b2z .nil jo (ja (qpv 1) jc)) (jbd jf5 jf) (λ_ _=>rfl)) jc)))
  (jg (jbo Iv (jn ja5 (jv j6 (by rfl) T.n_len kc (ja (qpv 3) jc)) jf (jr _)) (jg (jl (i:=4) z0.nd rfl (by first|exact Or.inl rfl|exact Or.inr rfl) (jk ix_U (j5 (ja jm (ja jm jc))) (jj G0z (hr.mono (by decide)) rfl T.m0z F0z.kp b0z .nil jo (ja (qpv 0) (ja jf jc))) (λ_ _=>rfl)))
  (ji (ky (yh A7 A8 ku (qpv 2) (ja (j9 (ja (qpv 4) (ja (yh PySem.F.slot_list_pop PySem.F.type_list_pop jb2 (qpv 3) (ja (jj G0z (hr.mono (by decide)) rfl T.m0z F0z.kp b0z .nil jo (ja (qpv 0) (ja (jv j6 (by rfl) T.n_len kc (ja (qpv 3) jc)) jc))) jc) jcl) (ja (jq jac (jv j6 (by rfl) T.n_len kc (ja (qpv 2) jc)) jf) jc)))) jc) jcl)))))
  (ji (jp (ki jas (by rfl) T.n_tuple z3 (ja (qpv 2) jc)))))))),?_⟩
  simp! [hp]
  intro q hq
  have k0:Kp [] H (upd H q (.lst us)):=(Kp.refl [] H).new hq
  have nbq:b≠q:=je hb hq
  have eq0:upd H q (.lst us) q=some (.lst us):=jb
  generalize upd H q (.lst us)=H0 at k0 eq0⊢
  refine⟨p,us,rs,zs,[],rfl,.inr (k0.tup _ _ hp),ra.kp k0,gd.1,hz,by omega,by simp,λm ys G H1 hm k1 em fl cf=>?_⟩
  obtain⟨ok,le⟩:=gd
  have g3:=le.all cf
  have yl:=fl.len
  have gl:=cf.len
  obtain⟨c,ec,hc⟩:=fl.get (i:=rs.length-1) (by omega)
  simp! [em]
  refine⟨_,jfj (by rw[yl,gl];exact ec),?_⟩
  simp! [hc.2]
  intro l hl
  have k01:=k0.trans k1
  have hl0:H l=none:=k01.free hl
  have nql:q≠l:=je (k1.old _ _ eq0 Ae) hl
  have nbl:b≠l:=je hb hl0
  have kA:Kp [] H (upd H1 l (.lst ((G.getD (rs.length-1) []).map V.str))):=k01.new hl
  have eqA:upd H1 l (.lst ((G.getD (rs.length-1) []).map V.str)) q=some (.lst us):=by rw[jd nql];exact k1.old _ _ eq0 Ae
  have elA:upd H1 l (.lst ((G.getD (rs.length-1) []).map V.str)) l=some (.lst ((G.getD (rs.length-1) []).map V.str)):=jb
  have sub0:∀x∈G.getD (rs.length-1) [],x∈zs:=cf.sub _
  have le0:=g3 (rs.length-1)
  generalize upd H1 l (.lst ((G.getD (rs.length-1) []).map V.str))=HA at kA eqA elA⊢
  generalize G.getD (rs.length-1) []=nm at elA sub0 le0
  refine jod (λσ H'=>∃(v:Option V)(us':List V)(rs':List RS)(lf:List Str)(o':HO),σ=[some (.ref b),some (.ref p),some (.ref q),some (.ref l),v]/\Kp [b] H H'/\H' q=some (.lst us')/\RowsAt H' us' rs'/\Good zs rs'/\H' l=some (.lst (lf.map V.str))/\(∀x∈lf,x∈zs) /\
   1<=rs'.length/\rs'.length+lf.length<=rs.length+3/\BoxO o'/\H' b=some o') (λ_ H'=>jht H' l) ?_ ?_ ?_
  ·exact⟨none,us,rs,nm,o,rfl,kA.mono (by simp),eqA,ra.kp kA,⟨ok,le⟩,elA,sub0,l1,by omega,ho,kA.old _ _ hb Ae⟩
  ·rintro σ H' ⟨v,us',rs',lf,o',rfl,kp,eq,ra',gd',el,sub,n1,n2,ho',hb'⟩
   have nL:jht H' l=lf.length:=by simp[jht,el]
   simp! [el]
   rw[Ad]
   refine ite2 (λh=>?_) (λh=>?_)
   ·obtain⟨xs0,rfl⟩:=id ho'.lst
    refine⟨by omega,λt ht=>?_⟩
    have nbt:b≠t:=je hb' ht
    refine⟨b,2,_,rfl,by rw[jd nbt];exact hb',ho',by omega,by omega,λd o2 d0 d1 ho2=>?_⟩
    have et:upd (upd H' t (.lst [V.str (Str.ofString "some"),V.str (Str.ofString "each")])) b o2 t=some (.lst [V.str (Str.ofString "some"),V.str (Str.ofString "each")]):=by rw[jd nbt.symm,jb]
    have k2:Kp [b] H' (upd (upd H' t (.lst [V.str (Str.ofString "some"),V.str (Str.ofString "each")])) b o2):=((Kp.refl [b] H').new ht).set (by rw[jd nbt];exact hb') (.inl (by simp))
    have hb2:upd (upd H' t (.lst [V.str (Str.ofString "some"),V.str (Str.ofString "each")])) b o2 b=some o2:=jb
    obtain⟨bb,hbb⟩:∃bb:Bool,atI [V.str (Str.ofString "some"),V.str (Str.ofString "each")] d=some (.str (qw bb)):=by
     have:d=0\/d=1:=by omega
     rcases this with rfl|rfl
     ·exact⟨true,jcg (by decide) rfl⟩
     ·exact⟨false,jcg (by decide) rfl⟩
    simp! [et]
    refine⟨_,hbb,?_⟩
    generalize upd (upd H' t (.lst [V.str (Str.ofString "some"),V.str (Str.ofString "each")])) b o2=H2 at k2 hb2⊢
    have eq2:H2 q=some (.lst us'):=k2.old _ _ eq (by simpa using nbq.symm)
    have el2:H2 l=some (.lst (lf.map V.str)):=k2.old _ _ el (by simpa using nbl.symm)
    obtain⟨xs2,rfl⟩:=id ho2.lst
    refine⟨by rw[eq2];rfl,by rw[el2];rfl,_,by rw[el2];rfl,b,_,_,rfl,hb2,ho2,by rw[Ad];omega,by rw[Ad];omega,λe o3 e0 e1 ho3=>?_⟩
    rw[Ad]at e1
    have el3:upd H2 b o3 l=some (.lst (lf.map V.str)):=by rw[jd nbl.symm];exact el2
    simp! [el3]
    obtain⟨x,hx⟩:∃x,lf[e.toNat]?=some x:=⟨lf[e.toNat]'(by omega),by simp⟩
    refine⟨e0,_,by rw[Ax,hx];rfl,?_⟩
    have hlen:(lf.eraseIdx e.toNat).length+1=lf.length:=by rw[Wp (by omega)];omega
    rw[jej]
    have k3:Kp [b] H2 (upd H2 b o3):=(Kp.refl [b] H2).set hb2 (.inl (.head _))
    have k4:Kp [b,l] H2 (upd (upd H2 b o3) l (.lst ((lf.eraseIdx e.toNat).map V.str))):=(k3.mono (by simp)).set el3 (.inl (.tail _ (.head _)))
    have kp4:Kp [b] H (upd (upd H2 b o3) l (.lst ((lf.eraseIdx e.toNat).map V.str))):=((kp.trans k2).trans k3).set el3 (.inr hl0)
    have el4:upd (upd H2 b o3) l (.lst ((lf.eraseIdx e.toNat).map V.str)) l=some (.lst ((lf.eraseIdx e.toNat).map V.str)):=jb
    have hb4:upd (upd H2 b o3) l (.lst ((lf.eraseIdx e.toNat).map V.str)) b=some o3:=by rw[jd nbl,jb]
    generalize upd (upd H2 b o3) l (.lst ((lf.eraseIdx e.toNat).map V.str))=H4 at k4 kp4 el4 hb4⊢
    have eq4:H4 q=some (.lst us'):=k4.old _ _ eq2 (by simp[nbq.symm,nql])
    have ul':us'.length=rs'.length:=Au ra'
    refine⟨us',by rw[eq4];rfl,by omega,λt2 ht2=>?_⟩
    have nqt:q≠t2:=je eq4 ht2
    have nlt:l≠t2:=je el4 ht2
    have nbt2:b≠t2:=je hb4 ht2
    have erow:[V.str (qw bb),V.str x,V.int ((us'.length:Int)-1)]=rowV (.qn bb x (rs'.length-1)):=by rw[ul',show((rs'.length:Int)-1)=((rs'.length-1:Nat):Int)by omega];rfl
    rw[erow]
    have e5q:upd H4 t2 (.tup (rowV (.qn bb x (rs'.length-1)))) q=some (.lst us'):=by rw[jd nqt];exact eq4
    have k5:Kp [q] H4 (upd (upd H4 t2 (.tup (rowV (.qn bb x (rs'.length-1))))) q (.lst (us'++[.ref t2]))):=((Kp.refl [q] H4).new ht2).set e5q (.inl (.head _))
    have k9:Kp [b,l,q] H' (upd (upd H4 t2 (.tup (rowV (.qn bb x (rs'.length-1))))) q (.lst (us'++[.ref t2]))):=(k2.mono (by simp)).trans ((k4.mono (by simp)).trans (k5.mono (by simp)))
    refine⟨us',by rw[e5q];rfl,by omega,⟨(kp4.new ht2).set e5q (.inr hq),rs'++[.qn bb x (rs'.length-1)],O9 (ra'.kp k9) ⟨t2,rfl,?_⟩,gd'.qn n1 bb (sub x (A6 hx)),lf.eraseIdx e.toNat,?_,λy hy=>sub y (List.mem_of_mem_eraseIdx hy),by simp,by simp;omega,o3,ho3,?_⟩,?_⟩
    ·rw[jd nqt.symm,jb]
    ·rw[jd nql.symm,jd nlt];exact el4
    ·rw[jd nbq,jd nbt2];exact hb4
    ·rw[nL]
     simp only[jht,jd nql.symm,jd nlt,el4,Ad]
     omega
   ·refine je7 eq λr hr'=>?_
    exact k r us' rs' o' _ n1 (by omega) (ra'.kp ((Kp.refl [b] H').new hr')) gd' (kp.free hr') jb ho' (by rw[jd (je hb' hr')];exact hb') (kp.new hr')
  ·intro σ H' Q Q' hm h
   obtain⟨v,e,h⟩:=h
   refine⟨v,e,?_⟩
   have go:∀n:Int,(∃i j,V.int n=.int i/\V.int 0=.int j/\∃k,V.bl (decide (j<i))=.bl k/\Q k H')->∃i j,V.int n=.int i/\V.int 0=.int j/\∃k,V.bl (decide (j<i))=.bl k/\Q' k H':=λn ⟨i,j,a,b,k,c,d⟩=>⟨i,j,a,b,k,c,hm _ _ d⟩
   cases v with
   |str z=>exact⟨h.1,go _ h.2⟩
   |ref p' =>
    obtain⟨ys,e1,e2⟩:=h
    exact⟨ys,e1,go _ e2⟩
   |_=>exact h.elim
end
structure SB(H:Hp)(b:Addr)(H':Hp):Prop where
 kp:Kp [b] H H'
 bx:∃o,H' b=some o/\BoxO o
theorem SB.take{H H':Hp}{b:Addr}{o1:HO}(h:SB H b H')(ho1:BoxO o1):SB H b (upd H' b o1):=by
 obtain⟨kp,o,hb,ho⟩:=h
 obtain⟨xs,rfl⟩:=ho.lst
 exact⟨kp.set hb (.inl (.head _)),o1,jb,ho1⟩
theorem SB.new{H H':Hp}{b p:Addr}{x:HO}(h:SB H b H')(hp:H' p=none):SB H b (upd H' p x):=by
 obtain⟨kp,o,hb,ho⟩:=h
 exact⟨kp.new hp,o,by rw[jd (je hb hp)];exact hb,ho⟩
theorem SB.keep{H H' H2:Hp}{b:Addr}(h:SB H b H')(k:Kp [] H' H2):SB H b H2:=by
 obtain⟨kp,o,hb,ho⟩:=h
 exact⟨kp.trans (k.mono (by simp)),o,k.old _ _ hb Ae,ho⟩
theorem SB.trans{H H' H2:Hp}{b:Addr}(h:SB H b H')(k:SB H' b H2):SB H b H2:=⟨h.kp.trans k.kp,k.bx⟩
theorem SB.tq{H H':Hp}{b:Addr}(h:SB H b H'){w:Int}(w0:0<w)(w1:w<1073741824){Q:VK}{E:XK}(q:∀d H2,0<=d->d<w->SB H b H2->Kp [b] H' H2->Q (.int d) H2):jc7 [.ref b,.int w] H' Q E:=by
 obtain⟨o,hb,ho⟩:=h.bx
 refine⟨b,w,o,rfl,hb,ho,w0,w1,λd o' d0 d1 ho'=>q d _ d0 d1 (h.take ho') ?_⟩
 obtain⟨xs,rfl⟩:=ho.lst
 exact(Kp.refl [b] H').set hb (.inl (.head _))
theorem SB.ne{H H':Hp}{b p:Addr}(h:SB H b H')(hp:H' p=none):p≠b:=by
 obtain⟨o,hb,_⟩:=h.bx
 exact(je hb hp).symm
structure PD(n:Nat)(ks:List (L2.Key×Int)):Prop where
 nd:(ks.map Prod.fst).Nodup
 lt:∀x∈ks,∃m:Nat,x.2=(m:Int)/\m<n
theorem PD.put{n:Nat}{ks:List (L2.Key×Int)}(h:PD n ks)(k:L2.Key){m:Nat}(hm:m<n):∃ks',putK (ks.map kI) k (.int (m:Int))=ks'.map kI/\PD n ks'/\(∀x,x∈ks'.map Prod.fst↔x=k\/x∈ks.map Prod.fst)/\ks'.length<=ks.length+1:=by
 unfold putK
 by_cases hk:((ks.map kI).any λkv=>decide (kv.1=k))=true
 ·rw[Ap hk]
  have ek:(ks.map λkv=>if kv.1=k then(kv.1,(m:Int))else kv).map Prod.fst=ks.map Prod.fst:=by
   rw[Ip]
   refine We λx _=>?_
   simp only[Function.comp]
   split <;> rfl
  have mk:k∈ks.map Prod.fst:=by
   obtain⟨x,hx,he⟩:=O0.mp hk
   obtain⟨y,hy,rfl⟩:=Ay.mp hx
   exact Ay.mpr ⟨y,hy,of_decide_eq_true he⟩
  refine⟨ks.map λkv=>if kv.1=k then(kv.1,(m:Int))else kv,?_,⟨by rw[ek];exact h.nd,λx hx=>?_⟩,λx=>?_,by simp⟩
  ·rw[Ip,Ip]
   refine We λx _=>?_
   show(if(kI x).1=k then((kI x).1,V.int (m:Int))else kI x)=kI (if x.1=k then(x.1,(m:Int))else x)
   by_cases e:x.1=k
   ·rw[Ap (show(kI x).1=k from e),Ap e];rfl
   ·rw[At (show ¬(kI x).1=k from e),At e]
  ·obtain⟨y,hy,rfl⟩:=Ay.mp hx
   split
   ·exact⟨m,rfl,hm⟩
   ·exact h.lt y hy
  ·rw[ek]
   exact⟨.inr,λh=>h.elim (λe=>e▸mk) id⟩
 ·rw[At hk]
  have nk:k∉ks.map Prod.fst:=λhm=>by
   obtain⟨x,hx,rfl⟩:=Ay.mp hm
   exact hk (O0.mpr ⟨kI x,Ay.mpr ⟨x,hx,rfl⟩,Ol rfl⟩)
  refine⟨ks++[(k,(m:Int))],by rw[I0];rfl,⟨?_,λx hx=>?_⟩,λx=>?_,by simp⟩
  ·rw[I0]
   refine List.nodup_append.mpr ⟨h.nd,by simp,λa ha b hb e=>?_⟩
   rw[e,Ah.mp hb]at ha
   exact nk ha
  ·rcases Is.mp hx with hx|hx
   ·exact h.lt x hx
   ·rw[Ah.mp hx];exact⟨m,rfl,hm⟩
  ·rw[I0,Is]
   constructor
   ·rintro(h|h)
    ·exact .inr h
    ·exact .inl (Ah.mp h)
   ·rintro(h|h)
    ·exact .inr (Ah.mpr h)
    ·exact .inl h
theorem PD.merge{n:Nat}:∀{more ks:List (L2.Key×Int)},PD n ks->(∀x∈more,∃m:Nat,x.2=(m:Int)/\m<n)->∃ks',jd3 (ks.map kI) (more.map kI)=ks'.map kI/\PD n ks'/\(∀x,x∈ks'.map Prod.fst↔x∈more.map Prod.fst\/x∈ks.map Prod.fst)/\ks'.length<=ks.length+more.length
 |[],ks,h,_=>⟨ks,rfl,h,λx=>by simp,by simp⟩
 |(k,v)::more,ks,h,g=>by
  obtain⟨m,hv,hm⟩:=g _ (.head _)
  obtain⟨k1,e1,h1,i1,l1⟩:=h.put k hm
  obtain⟨k2,e2,h2,i2,l2⟩:=PD.merge h1 (λx hx=>g x (.tail _ hx))
  have hv:v=(m:Int):=hv
  refine⟨k2,?_,h2,λx=>?_,by simp only[List.length_cons];omega⟩
  ·rw[<-e2,<-e1,hv];rfl
  ·rw[i2,i1,A9,Ar]
   constructor
   ·rintro(h|h|h)
    ·exact .inl (.inr h)
    ·exact .inl (.inl h)
    ·exact .inr h
   ·rintro((h|h)|h)
    ·exact .inr (.inl h)
    ·exact .inl h
    ·exact .inr (.inr h)
theorem PD.val{n:Nat}{ks:List (L2.Key×Int)}(h:PD n ks){k:L2.Key}(hk:k∈ks.map Prod.fst):∃m:Nat,valV (ks.map kI) k=some (.int (m:Int))/\m<n:=by
 obtain⟨x,hx,rfl⟩:=Ay.mp hk
 have:(valV (ks.map kI) x.1).isSome=true:=by
  rw[<-jdu]
  exact O0.mpr ⟨kI x,Ay.mpr ⟨x,hx,rfl⟩,Ol rfl⟩
 unfold valV at this⊢
 rw[Option.isSome_map]at this
 obtain⟨y,hy⟩:=Um.mp this
 obtain⟨z,hz,rfl⟩:=Ay.mp (List.mem_of_find?_eq_some hy)
 obtain⟨m,e,hm⟩:=h.lt z hz
 exact⟨m,by rw[hy,<-e];rfl,hm⟩
def rhoP(ks:List (L2.Key×Int))(y:Str):Nat:=match valV (ks.map kI) (.inr y)with|some (.int m)=>m.toNat|_=>0
theorem PD.rho{n:Nat}{ks:List (L2.Key×Int)}(h:PD n ks){y:Str}(hk:(.inr y:L2.Key)∈ks.map Prod.fst):valV (ks.map kI) (.inr y)=some (.int (rhoP ks y:Nat))/\rhoP ks y<n:=by
 obtain⟨m,e,hm⟩:=h.val hk
 have:rhoP ks y=m:=by unfold rhoP;rw[e];rfl
 rw[this];exact⟨e,hm⟩
def spPl:Sp:=λvs H Q _=>∃(b q:Addr)(z:Str)(ns:List Str)(o:HO),vs=[.ref b,.ref q,.str z]/\H b=some o/\BoxO o/\H q=some (.lst (ns.map V.str))/\b≠q/\ns.length<=100/\z.length<=10 /\
 ∀(p:Addr)(ks:List (L2.Key×Int))(H':Hp),SB H b H'->H p=none->H' p=some (.dK (ks.map kI))->PD z.length ks->ks.length<=100->(z.length≠0->∀y∈ns,(.inr y:L2.Key)∈ks.map Prod.fst)->Q (.ref p) H'
structure TPl(mg:Str->Option Value)(ft:Addr):Prop where
 n_len:mg "len"=none
 n_dict:mg "dict"=none
 m0z:mg "_law_take"=some (.ref ft)
section
variable{P:Program}{w:World}{K:PySem.W.Frag}{mg:Str->Option Value}{base:Heap}
abbrev yo:Stmt:=top 31
theorem sc__law_places:FnScope ["_law_box_here","_law_names","_law_text_here"] ["_law_box_here","_law_names","_law_text_here"] (jh yo):=⟨rfl,rfl,rfl,by decide +kernel,rfl,by decide +kernel,by decide +kernel⟩
theorem ok__law_places{f ft:Addr}{fd fdt:FuncData}(F:Fun K "_law_places" "_law_places" yo f fd)(T:TPl mg ft)(F0z:Fun K "_law_take" "_law_take" j7 ft fdt)(b0z:Binds K fdt ["_law_box_here","_law_wide"] [])
  (G0z:FnOk P w K mg base CX0 1 ft fdt ["_law_box_here","_law_wide"] jc7):FnOk P w K mg base CX0 2 f fd ["_law_box_here","_law_names","_law_text_here"] spPl:=by
 refine F.ok sc__law_places (λvs H Q E h=>?_) (λcdv A outer s H vs Q E hr h=>?_)
 ·obtain⟨b,q,z,ns,o,rfl,_⟩:=h
  rfl
 ·obtain⟨b,q,z,ns,o,rfl,hb,ho,hq,nbq,nl,zl,k⟩:=h
  have hu:=hr.units
  have hsz:sizeLine=16777216:=Aq
  refine exQ (jg (j0 (jn (j3 hu) (jv j6 (by rfl) T.n_len kc (ja (qpv 2) jc)) jf (jr _)) (ji (jp qpe_disp0)) ju)
  (ji (jp (ki (jag rfl hu) (by rfl) T.n_dict ja3 (ja (yc rfl (jch (sc:=jh yo) (N:=["_law_box_here","_law_names","_law_text_here"]) (Nc:=["_law_name","_law_box_here","_law_text_here"]) (js:=[none,some 0,some 2]) (by decide +kernel)) (kf (K:=K) (qpv 1) rfl) (λ_ _ _ _=>(jt (i:=0) (show List.Nodup [("_law_name":Str),("_law_box_here":Str),("_law_text_here":Str)]from by decide +kernel) rfl (by first|exact Or.inl rfl|exact Or.inr rfl))) (λ_ _ _ _=>(j9 (ja (qpv 0) (ja (jj G0z (hr.mono (by decide)) rfl T.m0z F0z.kp b0z .nil jo (ja (qpv 1) (ja (jv j6 (by rfl) T.n_len kc (ja (qpv 2) jc)) jc))) jc))))) jc))))) ?_
  have sb0:SB H b H:=⟨Kp.refl _ _,o,hb,ho⟩
  simp!
  refine⟨by omega,ite2 (λhz=>?_) (λhz=>?_)⟩
  ·exact λp hp=>k p [] _ (sb0.new hp) hp jb ⟨by simp,by simp⟩ (by simp) λh=>absurd (by omega) h
  ·simp only[hq]
   intro D hD
   have nDb:D≠b:=sb0.ne hD
   have nDq:D≠q:=(je hq hD).symm
   refine jcs (xs:=ns.map V.str) (λi σ H'=>∃(v:Option V)(ys:List V)(ks:List (L2.Key×Int)),σ=[v,some (.ref b),some (.str z)]/\H' D=some (.lst ys)/\H' q=some (.lst (ns.map V.str))/\PairsK H' ys (ks.map kI)/\ks.map Prod.fst=(ns.take i).map .inr/\(∀x∈ks,∃m:Nat,x.2=(m:Int)/\m<z.length)/\SB H b H') ?_ ?_ ?_ ?_
   ·exact⟨none,[],[],rfl,jb,by rw[jd nDq.symm];exact hq,.nil,by simp,by simp,sb0.new hD⟩
   ·rintro i σ H' _ ⟨_,_,_,rfl,_,h,_⟩
    exact h
   ·rintro i x σ H1 hx ⟨v,ys,ks,rfl,hD1,hq1,pr,hk,hv,sb1⟩
    rw[Ax]at hx
    obtain⟨y,hy,rfl⟩:=Ut.mp hx
    have hi:i<ns.length:=(Ag.mp hy).1
    have kl:ks.length=i:=by have:=Ob List.length hk;simp at this;omega
    have yl:ys.length=i:=by have:=Au pr;rw[Ad]at this;omega
    unfold jc3
    simp!
    refine⟨by omega,sb1.tq (by omega) (by omega) λd H2 d0 d1 sb2 k2=>?_⟩
    obtain⟨m,rfl⟩:∃m:Nat,d=(m:Int):=⟨d.toNat,by omega⟩
    have hD2:=k2.old _ _ hD1 (by simpa using nDb)
    have hq2:=k2.old _ _ hq1 (by simpa using nbq.symm)
    refine⟨by omega,λt ht=>?_⟩
    have nDt:D≠t:=je hD2 ht
    have hD3:upd H2 t (.tup [.str y,.int (m:Int)]) D=some (.lst ys):=by rw[jd nDt];exact hD2
    have k3:Kp [D] H2 (upd (upd H2 t (.tup [.str y,.int (m:Int)])) D (.lst (ys++[.ref t]))):=((Kp.refl [D] H2).new ht).set hD3 (.inl (.head _))
    have sb4:SB H b (upd (upd H2 t (.tup [.str y,.int (m:Int)])) D (.lst (ys++[.ref t]))):=by
     obtain⟨o',h',bo⟩:=sb2.bx
     exact⟨(sb2.kp.new ht).set hD3 (.inr hD),o',k3.old _ _ h' (by simpa using nDb.symm),bo⟩
    refine⟨ys,by rw[hD3];rfl,by omega,k3.old _ _ hq2 (by simpa using nDq.symm),ks++[(.inr y,(m:Int))],?_,?_,?_,sb4⟩
    ·rw[I0]
     exact O9 (Paired.mapP pr λ_ _ ⟨t,e,h⟩=>⟨t,e,k3.tup _ _ (k2.tup _ _ h)⟩) ⟨t,rfl,by rw[jd nDt.symm];exact jb⟩
    ·rw[I0,hk,jcp hy,I0];rfl
    ·intro x hx
     rcases Is.mp hx with h|h
     ·exact hv x h
     ·rw[Ah.mp h];exact⟨m,rfl,by omega⟩
   ·rintro σ H1 ⟨v,ys,ks,rfl,hD1,hq1,pr,hk,hv,sb1⟩
    simp!
    refine rDictK.of hD1 pr λp hp=>?_
    obtain⟨ks',e,pd,me,kl'⟩:=PD.merge (n:=z.length) (more:=ks) (ks:=[]) ⟨by simp,by simp⟩ hv
    have e':jc8 (ks.map kI)=ks'.map kI:=e
    rw[e']
    have kl:ks.length=ns.length:=by have:=Ob List.length hk;simp at this;omega
    refine k p ks' _ (sb1.new hp) (sb1.kp.free hp) jb pd (by simp at kl';omega) λ_ y hy=>(me _).mpr (.inl ?_)
    rw[hk]
    exact Ay.mpr ⟨y,by simpa using hy,rfl⟩
end
def jm4:Sp:=λvs H Q _=>∃(b:Addr)(z:Str)(m:Nat)(o:HO),vs=[.ref b,.str z,.int (m:Int)]/\H b=some o/\BoxO o/\1<=z.length/\z.length<=1000/\m<=1000 /\
 ∀u o' H',u.length<=m->(∀c∈sg u,c∈sg z)->BoxO o'->H' b=some o'->Kp [b] H H'->Q (.str u) H'
theorem jke{z:Str}:∀{xs:List V},(∀x∈xs,∃c:Nat,x=.str ⟨#[c]⟩/\c∈sg z)->∃ys:List Str,xs=ys.map V.str/\(∀y∈ys,y.length=1)/\(∀c∈(ys.map sg).flatten,c∈sg z)
 |[],_=>⟨[],rfl,(λ_ h=>nomatch h),by simp⟩
 |x::xs,h=>by
  obtain⟨c,rfl,hc⟩:=h x (.head _)
  obtain⟨ys,rfl,h1,h2⟩:=jke λy hy=>h y (.tail _ hy)
  refine⟨⟨#[c]⟩::ys,rfl,λy hy=>?_,λd hd=>?_⟩
  ·rcases Ar.mp hy with rfl|hy
   ·rfl
   ·exact h1 y hy
  ·rw[A9,List.flatten_cons,Is]at hd
   rcases hd with hd|hd
   ·have:d=c:=by simpa[sg]using hd
    rw[this];exact hc
   ·exact h2 d hd
structure TTx(mg:Str->Option Value)(ft:Addr):Prop where
 n_len:mg "len"=none
 n_range:mg "range"=none
 m0z:mg "_law_take"=some (.ref ft)
theorem BoxO.lst7{o:HO}(h:BoxO o):∃xs,o=.lst xs:=by obtain⟨c,s,e,_⟩:=h;exact⟨_,e⟩
section
variable{P:Program}{w:World}{K:PySem.W.Frag}{mg:Str->Option Value}{base:Heap}
abbrev y0:Stmt:=top 18
theorem sc__law_text:FnScope ["_law_box_here","_law_letters_here","_law_most"] ["_law_box_here","_law_letters_here","_law_most"] (jh y0):=⟨rfl,rfl,rfl,by decide +kernel,rfl,by decide +kernel,by decide +kernel⟩
theorem ok__law_text{f ft:Addr}{fd fdt:FuncData}(F:Fun K "_law_text" "_law_text" y0 f fd)(T:TTx mg ft)(F0z:Fun K "_law_take" "_law_take" j7 ft fdt)(b0z:Binds K fdt ["_law_box_here","_law_wide"] [])
  (G0z:FnOk P w K mg base CX0 1 ft fdt ["_law_box_here","_law_wide"] jc7):FnOk P w K mg base CX0 2 f fd ["_law_box_here","_law_letters_here","_law_most"] jm4:=by
 refine F.ok sc__law_text (λvs H Q E h=>?_) (λcdv A outer s H vs Q E hr h=>?_)
 ·obtain⟨b,z,m,o,rfl,_⟩:=h
  rfl
 ·obtain⟨b,z,m,o,rfl,hb,ho,z1,z2,hm,k⟩:=h
  have hu:=hr.units
  refine⟨_,(QSs.h (ji (jp (jbh Yn Yo ja9 jm (ja (yc rfl (jch (sc:=jh y0) (N:=["_law_box_here","_law_letters_here","_law_most"]) (Nc:=["_law_k","_law_letters_here","_law_box_here"]) (js:=[none,some 1,some 0]) (by decide +kernel)) (yu rfl T.n_range (ja (jj G0z (hr.mono (by decide)) rfl T.m0z F0z.kp b0z .nil jo (ja (qpv 0) (ja (jq j8 (qpv 2) jf) jc))) jc)) (λ_ _ _ _=>(jt (i:=0) (show List.Nodup [("_law_k":Str),("_law_letters_here":Str),("_law_box_here":Str)]from by decide +kernel) rfl (by first|exact Or.inl rfl|exact Or.inr rfl))) (λ_ _ _ _=>(jk ix_U (qpv 1) (jj G0z (hr.mono (by decide)) rfl T.m0z F0z.kp b0z .nil jo (ja (qpv 2) (ja (jv j6 (by rfl) T.n_len kc (ja (qpv 1) jc)) jc))) (λ_ _=>rfl)))) jc) jiq)))),?_⟩
  have hsz:sizeLine=16777216:=Aq
  have hzl:z.cps.toList.length=z.length:=by simp[Str.length]
  simp!
  refine⟨b,_,o,rfl,hb,ho,by omega,by omega,λd o1 d0 d1 ho1=>?_⟩
  obtain⟨n,rfl⟩:∃n:Nat,d=(n:Int):=⟨d.toNat,by omega⟩
  obtain⟨xs0,rfl⟩:=ho.lst7
  refine⟨_,rfl,by omega,by omega,λD hD=>?_⟩
  rw[Int.toNat_natCast]
  refine jif (λx=>∃c:Nat,x=.str ⟨#[c]⟩/\c∈sg z) jb ho1 hD (by omega) (λx H' o' Q' hb' ho' hq=>?_) λv xs o' hl hP ho'=>?_
  ·simp!
   refine⟨by omega,b,z.length,_,rfl,hb',ho',by omega,by omega,λe o5 e0 e1 ho5=>?_⟩
   simp!
   exact⟨by omega,z.cps.toList[e.toNat]'(by omega),jcg e0 (by simp),hq _ _ ⟨_,rfl,Ov _⟩ ho5⟩
  ·obtain⟨ys,rfl,hy2,hy3⟩:=jke hP
   rw[Ad]at hl
   have ns:(ys.map (·.length)).sum=ys.length:=by
    clear hl hP hy3
    induction ys with
    |nil=>rfl
    |cons y ys ih=>simp[hy2 y (.head _),ih λz hz=>hy2 z (.tail _ hz)];omega
   refine⟨ys,jb,by rw[ns];show ys.length+ys.length*0<=_;omega,?_⟩
   have lj:=PySem.W.KT.join_ones ys hy2
   have nbD:b≠D:=je jb hD
   obtain⟨xs1,rfl⟩:=id ho1.lst7
   refine k _ o' _ (by rw[lj];omega) (λc hc=>?_) ho' (by rw[jd nbD,jb]) ((((Kp.refl [b] H).set hb (.inl (.head _))).set jb (.inl (.head _))).new (by rw[jd nbD.symm];exact hD))
   rw[joi]at hc
   exact hy3 c hc
end
theorem jqh{z:Str}(h:NmOk z):PyData.strOk z=true:=by
 unfold PyData.strOk
 rw[Array.all_eq_true']
 intro c hc
 have:=h.2 c (by unfold sg;exact Array.mem_toList_iff.mpr hc)
 simp
 omega
theorem jk2(us:List V):cutV us none (some (3:Int))=us.take 3:=by
 have h:HT.sIx us.length us.length (some 3)=min 3 us.length:=by simp only[HT.sIx];split <;> omega
 have h0:HT.sIx us.length 0 none=0:=rfl
 unfold cutV
 rw[h,h0,List.drop_zero,Nat.sub_zero,<-List.take_take,Oh]
theorem jhe{H:Hp}:∀{us:List V}{rs:List RS}(n:Nat),RowsAt H us rs->RowsAt H (us.take n) (rs.take n)
 |_,_,0,_=>.nil
 |_,_,n+1,.nil=>.nil
 |_,_,n+1,.cons h r=>.cons h (jhe n r)
theorem mkAs{z:Str}{rs:List RS}{zs:List Str}{ks:List (L2.Key×Int)}{F:List (List Str)}(g:Good zs rs)(zl:zs.length<=26)(n1:1<=rs.length)(n9:rs.length<=60)(hzs:∀y∈zs,NmOk y)(hz:z.length<=10)(pd:PD z.length ks)(kl:ks.length<=1000)(cf:CF zs F rs)(cov:∀y∈F.getD (rs.length-1) [],(.inr y:L2.Key)∈ks.map Prod.fst):AsK z rs zs ks (rhoP ks) :=
 ⟨g.1,zl,n1,n9,λy hy=>jqh (hzs y hy),hz,g.2,pd.nd,kl,λF' cf' y hy=>by rw[<-cf.eq g.1 cf']at hy;exact pd.rho (cov y hy)⟩
structure LI(H:Hp)(pn t fq:Addr)(zs:List Str)(us:List V)(rs:List RS)(F:List (List Str))(H':Hp):Prop where
 kp:Kp [] H H'
 hp:H' pn=some (.lst (zs.map V.str))
 ht:H' t=some (.tup us)
 ra:RowsAt H' us rs
 hf:H' fq=some (.lst ((F.getD (rs.length-1) []).map V.str))
theorem LI.keep{H H1 H2:Hp}{pn t fq:Addr}{zs:List Str}{us:List V}{rs:List RS}{F:List (List Str)}{S:List Addr}(I:LI H pn t fq zs us rs F H1)(k:Kp S H1 H2)(n1:pn∉S)(n2:fq∉S)(hS:∀b∈S,H b=none):LI H pn t fq zs us rs F H2:=⟨jda I.kp k hS,k.old _ _ I.hp n1,k.tup _ _ I.ht,I.ra.kp k,k.old _ _ I.hf n2⟩
structure TLw(mg:Str->Option Value)(fb fl fp ft fr fs fo ff fx fc fm fh fe:Addr):Prop where
 n_tuple:mg "tuple"=none
 n_range:mg "range"=none
 n_len:mg "len"=none
 n_dict:mg "dict"=none
 m6z:mg "_law_box"=some (.ref fb)
 m15z:mg "_law_letters"=some (.ref fl)
 m16z:mg "_law_place_names"=some (.ref fp)
 m0z:mg "_law_take"=some (.ref ft)
 m17z:mg "_law_rows_to"=some (.ref fr)
 m19z:mg "_law_shut"=some (.ref fs)
 m14z:mg "_law_doubled"=some (.ref fo)
 m2z:mg "_law_frees"=some (.ref ff)
 m20z:mg "_law_text"=some (.ref fx)
 m12z:mg "_law_places"=some (.ref fc)
 m11z:mg "_law_meets"=some (.ref fm)
 m4z:mg "holds"=some (.ref fh)
 m5z:mg "_law_due"=some (.ref fe)
section
variable{P:Program}{w:World}{K:PySem.W.Frag}{mg:Str->Option Value}{base:Heap}
abbrev jai:Stmt:=top 33
theorem yd:FnScope ["_law_script","_law_box_here","_law_letters_here","_law_names","_law_shut_here","_law_most","_law_long","_law_saying","_law_free","_law_turn","_law_text_here","_law_some","_law_places_here","_law_again","_law_found"] ["_law_script"] (jh jai):=⟨rfl,rfl,rfl,by decide +kernel,rfl,by decide +kernel,by decide +kernel⟩
theorem ok_law{f fb fl fp ft fr fs fo ff fx fc fm fh fe:Addr}{fd fdb fdl fdp fdt fdr fds fdo fdf fdx fdc fdm fdh fde:FuncData}(F:Fun K "law" "law" jai f fd)(T:TLw mg fb fl fp ft fr fs fo ff fx fc fm fh fe)
  (F6z:Fun K "_law_box" "_law_box" zk fb fdb) (b6z:Binds K fdb ["_law_script","_law_k"] []) (G6z:FnOk P w K mg base CX0 1 fb fdb ["_law_script","_law_k"] (jom K))
  (F15z:Fun K "_law_letters" "_law_letters" yr fl fdl) (b15z:Binds K fdl ["_law_box_here","_law_most"] []) (G15z:FnOk P w K mg base CX0 2 fl fdl ["_law_box_here","_law_most"] jhi)
  (F16z:Fun K "_law_place_names" "_law_place_names" ke fp fdp) (b16z:Binds K fdp ["_law_box_here","_law_many"] []) (G16z:FnOk P w K mg base CX0 2 fp fdp ["_law_box_here","_law_many"] spPN)
  (F0z:Fun K "_law_take" "_law_take" j7 ft fdt) (b0z:Binds K fdt ["_law_box_here","_law_wide"] []) (G0z:FnOk P w K mg base CX0 1 ft fdt ["_law_box_here","_law_wide"] jc7)
  (F17z:Fun K "_law_rows_to" "_law_rows_to" yt fr fdr) (b17z:Binds K fdr ["_law_box_here","_law_letters_here","_law_names","_law_most","_law_deep_here"] []) (G17z:FnOk P w K mg base CX0 4 fr fdr ["_law_box_here","_law_letters_here","_law_names","_law_most","_law_deep_here"] spRo)
  (F19z:Fun K "_law_shut" "_law_shut" zf fs fds) (b19z:Binds K fds ["_law_box_here","_law_rows"] []) (G19z:FnOk P w K mg base CX0 3 fs fds ["_law_box_here","_law_rows"] jm3)
  (F14z:Fun K "_law_doubled" "_law_doubled" yq fo fdo) (b14z:Binds K fdo ["_law_box_here","_law_rows"] []) (G14z:FnOk P w K mg base CX0 2 fo fdo ["_law_box_here","_law_rows"] spDb)
  (F2z:Fun K "_law_frees" "_law_frees" yk ff fdf) (b2z:Binds K fdf ["_law_saying"] []) (G2z:FnOk P w K mg base CX0 2 ff fdf ["_law_saying"] spFs)
  (F20z:Fun K "_law_text" "_law_text" y0 fx fdx) (b20z:Binds K fdx ["_law_box_here","_law_letters_here","_law_most"] []) (G20z:FnOk P w K mg base CX0 2 fx fdx ["_law_box_here","_law_letters_here","_law_most"] jm4)
  (F12z:Fun K "_law_places" "_law_places" yo fc fdc) (b12z:Binds K fdc ["_law_box_here","_law_names","_law_text_here"] []) (G12z:FnOk P w K mg base CX0 2 fc fdc ["_law_box_here","_law_names","_law_text_here"] spPl)
  (F11z:Fun K "_law_meets" "_law_meets" y6 fm fdm) (b11z:Binds K fdm ["_law_saying","_law_text_here","_law_places_here"] []) (G11z:FnOk P w K mg base CX0 125 fm fdm ["_law_saying","_law_text_here","_law_places_here"] spMe)
  (F4z:Fun K "holds" "holds" zq fh fdh) (b4z:Binds K fdh ["saying","text","places"] []) (G4z:FnOk P w K mg base CX0 6 fh fdh ["saying","text","places"] spHo)
  (F5z:Fun K "_law_due" "_law_due" y9 fe fde) (b5z:Binds K fde ["_law_saying","_law_text_here","_law_places_here"] []) (G5z:FnOk P w K mg base CX0 124 fe fde ["_law_saying","_law_text_here","_law_places_here"] jlq):FnOk P w K mg base CX0 126 f fd ["_law_script"] (jhz K):=by
 refine F.ok yd (λvs H Q E h=>?_) (λcdv A outer s H vs Q E hr h=>?_)
 ·obtain⟨a,is,rfl,_⟩:=h
  rfl
 ·obtain⟨a,is,rfl,ha,hil,kQ⟩:=h
  have hu:=hr.units
  have hsz:sizeLine=16777216:=Aq
  refine exQ (jg (jl (i:=1) yd.nd rfl (by first|exact Or.inl rfl|exact Or.inr rfl) (jj G6z (hr.mono (by decide)) rfl T.m6z F6z.kp b6z .nil jo (ja (qpv 0) (ja jf jc))))
  (jg (jl (i:=2) yd.nd rfl (by first|exact Or.inl rfl|exact Or.inr rfl) (jj G15z (hr.mono (by decide)) rfl T.m15z F15z.kp b15z .nil jo (ja (qpv 1) (ja jf jc))))
  (jg (jl (i:=3) yd.nd rfl (by first|exact Or.inl rfl|exact Or.inr rfl) (jj G16z (hr.mono (by decide)) rfl T.m16z F16z.kp b16z .nil jo (ja (qpv 1) (ja (jq j8 jf (jj G0z (hr.mono (by decide)) rfl T.m0z F0z.kp b0z .nil jo (ja (qpv 1) (ja jf jc)))) jc))))
  (jg (jl (i:=4) yd.nd rfl (by first|exact Or.inl rfl|exact Or.inr rfl) (jj G0z (hr.mono (by decide)) rfl T.m0z F0z.kp b0z .nil jo (ja (qpv 1) (ja jf jc))))
  (jg (ja7 (jk ix_U (j5 (ja (j9 (ja jf (ja jf jc))) (ja (j9 (ja jf (ja jf jc))) (ja (j9 (ja jf (ja jf jc))) jc)))) (jq zt (jq jbg (jj G0z (hr.mono (by decide)) rfl T.m0z F0z.kp b0z .nil jo (ja (qpv 1) (ja jf jc))) jf) jf) (λ_ _=>rfl)) (ja6 (n:=2) rfl (zi (jt (i:=5) yd.nd rfl (by first|exact Or.inl rfl|exact Or.inr rfl)) (zi (jt (i:=6) yd.nd rfl (by first|exact Or.inl rfl|exact Or.inr rfl)) jaw)) (K:=K) rfl))
  (jg (jl (i:=7) yd.nd rfl (by first|exact Or.inl rfl|exact Or.inr rfl) (ki jas (by rfl) T.n_tuple z3 (ja (jj G17z (hr.mono (by decide)) rfl T.m17z F17z.kp b17z .nil jo (ja (jj G6z (hr.mono (by decide)) rfl T.m6z F6z.kp b6z .nil jo (ja (qpv 0) (ja jf jc))) (ja (qpv 2) (ja (qpv 3) (ja (qpv 5) (ja (jk ix_U (j5 (ja jf (ja jf jc))) (qpv 4) (λ_ _=>rfl)) jc)))))) jc)))
  (jz (j0 (jn (j3 hu) (qpv 4) jf (jr _)) (ji (jl (i:=7) yd.nd rfl (by first|exact Or.inl rfl|exact Or.inr rfl) (jj G19z (hr.mono (by decide)) rfl T.m19z F19z.kp b19z .nil jo (ja (qpv 1) (ja (qpv 7) jc))))) ju)
  (jg (jl (i:=1) yd.nd rfl (by first|exact Or.inl rfl|exact Or.inr rfl) (jj G6z (hr.mono (by decide)) rfl T.m6z F6z.kp b6z .nil jo (ja (qpv 0) (ja jf jc))))
  (jz (j0 (jn (j3 hu) (jj G0z (hr.mono (by decide)) rfl T.m0z F0z.kp b0z .nil jo (ja (qpv 1) (ja jf jc))) jf (jr _)) (jg (jl (i:=7) yd.nd rfl (by first|exact Or.inl rfl|exact Or.inr rfl) (jj G14z (hr.mono (by decide)) rfl T.m14z F14z.kp b14z .nil jo (ja (qpv 1) (ja (zu (sl_VK (K:=K) rfl) (qpv 7) z7 (zv jf)) jc))))
  (ji (jl (i:=6) yd.nd rfl (by first|exact Or.inl rfl|exact Or.inr rfl) jf))) ju)
  (jg (jl (i:=8) yd.nd rfl (by first|exact Or.inl rfl|exact Or.inr rfl) (jk ix_U (jj G2z (hr.mono (by decide)) rfl T.m2z F2z.kp b2z .nil jo (ja (qpv 7) jc)) (jbd jf5 jf) (λ_ _=>rfl)))
  (jg (jl (i:=1) yd.nd rfl (by first|exact Or.inl rfl|exact Or.inr rfl) (jj G6z (hr.mono (by decide)) rfl T.m6z F6z.kp b6z .nil jo (ja (qpv 0) (ja jf jc))))
  (jg (yp Iv rfl (yu rfl T.n_range (ja jf jc)) (jt (i:=9) yd.nd rfl (by first|exact Or.inl rfl|exact Or.inr rfl)) (jg (jl (i:=10) yd.nd rfl (by first|exact Or.inl rfl|exact Or.inr rfl) (jj G20z (hr.mono (by decide)) rfl T.m20z F20z.kp b20z .nil jo (ja (qpv 1) (ja (qpv 2) (ja (qpv 6) jc)))))
  (jz (j0 (QW.pt (jbk (jn (j3 hu) (qpv 10) jm (jr _)) (jb1 (jn ja5 (jv j6 (by rfl) T.n_len kc (ja (qpv 8) jc)) jf (jr _))))) (ji (jl (i:=10) yd.nd rfl (by first|exact Or.inl rfl|exact Or.inr rfl) (jk ix_U (qpv 2) jf (λ_ _=>rfl)))) ju)
  (jg (jl (i:=11) yd.nd rfl (by first|exact Or.inl rfl|exact Or.inr rfl) (jk ix_U (j5 (ja (qpv 3) (ja (qpv 8) jc))) (jj G0z (hr.mono (by decide)) rfl T.m0z F0z.kp b0z .nil jo (ja (qpv 1) (ja jf jc))) (λ_ _=>rfl)))
  (jg (jl (i:=12) yd.nd rfl (by first|exact Or.inl rfl|exact Or.inr rfl) (jj G12z (hr.mono (by decide)) rfl T.m12z F12z.kp b12z .nil jo (ja (qpv 1) (ja (qpv 11) (ja (qpv 10) jc)))))
  (jg (jl (i:=13) yd.nd rfl (by first|exact Or.inl rfl|exact Or.inr rfl) (ki (jag rfl hu) (by rfl) T.n_dict ja3 (ja (qpv 12) jc)))
  (jz (j0 (jcb (jbj (jj G11z (hr.mono (by decide)) rfl T.m11z F11z.kp b11z .nil jo (ja (qpv 7) (ja (qpv 10) (ja (qpv 12) jc)))))) (ji (jp ja2)) ju)
  (jg (ky (jj G4z (hr.mono (by decide)) rfl T.m4z F4z.kp b4z .nil jo (ja (qpv 7) (ja (qpv 10) (ja (qpv 13) jc)))))
  (jg (ky (qpe_dup (qpv 13) (jj G12z (hr.mono (by decide)) rfl T.m12z F12z.kp b12z .nil jo (ja (qpv 1) (ja (qpv 11) (ja (qpv 10) jc)))) ⟨rfl,rfl,rfl,rfl⟩))
  (jg (jl (i:=14) yd.nd rfl (by first|exact Or.inl rfl|exact Or.inr rfl) (jj G4z (hr.mono (by decide)) rfl T.m4z F4z.kp b4z .nil jo (ja (qpv 7) (ja (qpv 10) (ja (qpv 13) jc)))))
  (ji (j0 (QW.pt (jal (jn (jbr hu) (qpv 14) (jj G5z (hr.mono (by decide)) rfl T.m5z F5z.kp b5z .nil jo (ja (qpv 7) (ja (qpv 10) (ja (qpv 13) jc)))) (jr _)) (z8 (jcb (jbj (jj G11z (hr.mono (by decide)) rfl T.m11z F11z.kp b11z .nil jo (ja (qpv 7) (ja (qpv 10) (ja (qpv 12) jc))))))))) (ji (jp ja2)) ju))))))))))))
  (ji (jp ja2)))))))))))))) ?_
  simp!
  refine⟨a,0,is,rfl,ha,by omega,by omega,λb1 o1 hb1 ho1=>?_⟩
  refine⟨b1,4,o1,rfl,jb,ho1,by omega,by omega,λzl o2 H2 hz ho2 hb2 kp2=>?_⟩
  have sb2:SB H2 b1 H2:=⟨Kp.refl _ _,o2,hb2,ho2⟩
  refine sb2.tq (by decide) (by decide) λd H3 d0 d1 sb3 k3=>?_
  obtain⟨o3,hb3,ho3⟩:=sb3.bx
  obtain⟨m,rfl⟩:∃m:Nat,d=(m:Int):=⟨d.toNat,by omega⟩
  refine⟨b1,m+1,o3,by rw[show(1+(m:Int))=((m+1:Nat):Int)by omega],hb3,ho3,by omega,by omega,λpn zs o4 H4 hzl hzs hp0 hp4 ho4 hb4 k4=>?_⟩
  have sb4:SB H2 b1 H4:=sb3.trans ⟨k4,o4,hb4,ho4⟩
  have sb4n:pn≠b1:=λz=>by rw[z,hb3]at hp0;cases hp0
  refine sb4.tq (by decide) (by decide) λsh H5 sh0 sh1 sb5 k5=>?_
  have hp5:=k5.old _ _ hp4 (by simpa using sb4n)
  refine⟨by omega,λp hp=>⟨by omega,λq hq=>⟨by omega,λr hr'=>⟨by omega,λl hl=>?_⟩⟩⟩⟩
  have q1:=(((((Kp.refl [] H5).new (o:=.tup [.int 12,.int 4]) hp).new (o:=.tup [.int 12,.int 4]) hq).new (o:=.tup [.int 4,.int 10]) hr').new (o:=.lst [.ref p,.ref q,.ref r]) hl)
  have e0:=((((Kp.refl [] _).new (o:=.tup [.int 12,.int 4]) hq).new (o:=.tup [.int 4,.int 10]) hr').new (o:=.lst [.ref p,.ref q,.ref r]) hl).tup p _ jb
  have e1:=(((Kp.refl [] _).new (o:=.tup [.int 4,.int 10]) hr').new (o:=.lst [.ref p,.ref q,.ref r]) hl).tup q _ jb
  have e2:=((Kp.refl [] _).new (o:=.lst [.ref p,.ref q,.ref r]) hl).tup r _ jb
  have e3:upd (upd (upd (upd H5 p (.tup [.int 12,.int 4])) q (.tup [.int 12,.int 4])) r (.tup [.int 4,.int 10])) l (.lst [.ref p,.ref q,.ref r]) l=some (.lst [.ref p,.ref q,.ref r]):=jb
  have nl:l≠b1:=(sb5.keep ((((Kp.refl [] H5).new (o:=.tup [.int 12,.int 4]) hp).new (o:=.tup [.int 12,.int 4]) hq).new (o:=.tup [.int 4,.int 10]) hr')).ne hl
  generalize upd (upd (upd (upd H5 p (.tup [.int 12,.int 4])) q (.tup [.int 12,.int 4])) r (.tup [.int 4,.int 10])) l (.lst [.ref p,.ref q,.ref r])=H6 at q1 e0 e1 e2 e3⊢
  have sb6:=sb5.keep q1
  refine sb6.tq (by decide) (by decide) λg H7 g0 g1 sb7 k7=>?_
  have e7:=k7.old _ _ e3 (by simpa using nl)
  obtain⟨t,mo,lo,ht1,ht2,hml⟩:∃(t:Addr)(mo lo:Nat),atI [V.ref p,V.ref q,V.ref r] (g / 3%3)=some (.ref t)/\H7 t=some (.tup [.int (mo:Int),.int (lo:Int)])/\(1<=mo/\mo<=12/\lo<=10):=by
   rcases(by omega:g / 3%3=0\/g / 3%3=1\/g / 3%3=2)with e|e|e
   ·rw[e];exact⟨p,12,4,jcg (by decide) rfl,k7.tup _ _ e0,by decide⟩
   ·rw[e];exact⟨q,12,4,jcg (by decide) rfl,k7.tup _ _ e1,by decide⟩
   ·rw[e];exact⟨r,4,10,jcg (by decide) rfl,k7.tup _ _ e2,by decide⟩
  refine⟨_,rfl,⟨by omega,by omega⟩,by decide,_,by rw[e7];rfl,_,ht1,t,[.int (mo:Int),.int (lo:Int)],rfl,SqT.of ht2,rfl,_,_,rfl,_,_,rfl,rfl,?_⟩
  have h07:Kp [] H H7:=jda ((Kp.refl [] H).new hb1) (kp2.trans sb7.kp) λb hb=>by rw[Ah.mp hb];exact hb1
  have hp7:=k7.old _ _ (q1.old _ _ hp5 Ae) (by simpa using sb4n)
  simp!
  refine⟨a,1,is,rfl,h07.seq (by simp) ha,by omega,by omega,λb2 o8 hb8 ho8=>?_⟩
  refine⟨by omega,λl2 hl2=>?_⟩
  obtain⟨dh,hdh⟩:∃dh:Nat,atI [V.int 4,V.int 1] sh=some (.int (dh:Int)):=by
   rcases(by omega:sh=0\/sh=1)with rfl|rfl
   ·exact⟨4,rfl⟩
   ·exact⟨1,rfl⟩
  have q8:Kp [] H7 (upd (upd H7 b2 o8) l2 (.lst [.int 4,.int 1])):=((Kp.refl [] H7).new hb8).new hl2
  have hb9:upd (upd H7 b2 o8) l2 (.lst [.int 4,.int 1]) b2=some o8:=by rw[jd (je jb hl2),jb]
  have nb2:b2≠pn:=(je hp7 hb8).symm
  obtain⟨o7,hb7,ho7⟩:=sb7.bx
  have nb12:b1≠b2:=je hb7 hb8
  generalize upd (upd H7 b2 o8) l2 (.lst [.int 4,.int 1])=H9 at q8 hb9⊢
  refine⟨_,hdh,b2,pn,zl,zs,mo,dh,o8,rfl,hb9,ho8,hz,q8.old _ _ hp7 Ae,by omega,by omega,by omega,by omega,nb2,λq9 us rs o10 H10 n1 n2 ra ok le hq0 hq10 ho10 hb10 k10=>?_⟩
  refine je7 hq10 λt hti=>?_
  have k79:Kp [b2] H7 H10:=(q8.mono (by simp)).trans k10
  have k7b:Kp [b2] H7 (upd H10 t (.tup us)):=k79.new hti
  have et:upd H10 t (.tup us) t=some (.tup us):=jb
  have ra11:RowsAt (upd H10 t (.tup us)) us rs:=ra.kp ((Kp.refl [] H10).new hti)
  generalize upd H10 t (.tup us)=H11 at k7b et ra11⊢
  have k011:Kp [] H H11:=jda h07 k7b λb hb=>by rw[Ah.mp hb];exact h07.free hb8
  have hp11:=k7b.old _ _ hp7 (by simpa using nb2.symm)
  have hb11:=k7b.old _ _ hb7 (by simpa using nb12)
  refine⟨λσ H'=>∃(t:Addr)(us:List V)(rs:List RS),σ=[some (.ref a),some (.ref b1),some (.str zl),some (.ref pn),some (.int sh),some (.int (mo:Int)),some (.int (lo:Int)),some (.ref t),none,none,none,none,none,none,none]/\Kp [] H H'/\H' pn=some (.lst (zs.map V.str))/\H' t=some (.tup us)/\RowsAt H' us rs/\Good zs rs/\1<=rs.length/\rs.length<=60,?_,?_⟩
  ·simp!
   refine ite2 (λ_=>?_) (λ_=>?_)
   ·refine⟨b1,t,zs,us,rs,o7,rfl,hb11,ho7,et,ra11,⟨ok,le⟩,n1,by omega,by omega,λq' us' rs' o' H' m1 m2 ra' gd' hq0' hq' ho' hb' k'=>?_⟩
    refine⟨q',rfl,jfu k011 k' hb1,k'.old _ _ hp11 (by simpa using sb4n),us',hq',rs',ra',gd',m1,by omega⟩
   ·exact⟨k011,hp11,us,et,rs,ra11,⟨ok,le⟩,n1,by omega⟩
  clear ra11 et k011 hp11 ra ok le n1 n2
  rintro _ H12 ⟨t,us,rs,rfl,k012,hp12,ht12,ra12,gd12,n1,n2⟩
  simp!
  refine⟨a,3,is,rfl,k012.seq (by simp) ha,by omega,by omega,λb3 o13 hb13 ho13=>?_⟩
  have q13:Kp [] H12 (upd H12 b3 o13):=(Kp.refl [] H12).new hb13
  have sb13:SB (upd H12 b3 o13) b3 (upd H12 b3 o13):=⟨Kp.refl _ _,o13,jb,ho13⟩
  generalize upd H12 b3 o13=H13 at q13 sb13⊢
  have nb3:b3≠pn:=(je hp12 hb13).symm
  refine⟨λσ H'=>∃(t:Addr)(us:List V)(rs:List RS)(lo:Nat),σ=[some (.ref a),some (.ref b3),some (.str zl),some (.ref pn),some (.int sh),some (.int (mo:Int)),some (.int (lo:Int)),some (.ref t),none,none,none,none,none,none,none]/\Kp [] H H'/\H' pn=some (.lst (zs.map V.str))/\H' t=some (.tup us)/\RowsAt H' us rs/\Good zs rs/\1<=rs.length/\rs.length<=60/\lo<=10,?_,?_⟩
  ·simp!
   refine sb13.tq (by decide) (by decide) λd H14 d0 d1 sb14 k14=>⟨_,rfl,?_⟩
   have k1214:Kp [b3] H12 H14:=(q13.mono (by simp)).trans k14
   have hp14:=k1214.old _ _ hp12 (by simpa using nb3.symm)
   have k014:=jfu k012 k1214 (k012.free hb13)
   refine ite2 (λ_=>?_) (λ_=>?_)
   ·refine rSlV.tup (k1214.tup _ _ ht12) λc H15 hc k15=>?_
    rw[jk2]at hc
    obtain⟨o15,hb15,ho15⟩:=(sb14.keep k15).bx
    have nbc:b3≠c:=λz=>by rw[<-z,hb15]at hc;obtain⟨_,rfl⟩:=ho15.lst;cases hc
    refine⟨b3,c,us.take 3,rs.take 3,zs,o15,rfl,hb15,ho15,hc,jhe 3 ((ra12.kp k1214).kp k15),gd12.1.take 3,gd12.2.take 3,by rw[A5];omega,by rw[A5];omega,nbc,λq' us' rs' o' H' m60 ra' ok' le' hq0' hq' ho' hb' k'=>?_⟩
    have k12':Kp [b3] H14 H':=(k15.mono (by simp)).trans k'
    exact⟨q',us',rs',4,⟨rfl,rfl⟩,jfu k012 (k1214.trans k12') (k012.free hb13),k12'.old _ _ hp14 (by simpa using nb3.symm),hq',ra',⟨ok',le'⟩,by omega,by omega,by decide⟩
   ·exact⟨t,us,rs,lo,⟨rfl,rfl⟩,k014,hp14,k1214.tup _ _ ht12,ra12.kp k1214,gd12,n1,n2,by omega⟩
  clear ht12 ra12 gd12 n1 n2
  rintro _ H16 ⟨t,us,rs,lo,rfl,k016,hp16,ht16,ra16,gd,n1,n2,hlo⟩
  simp!
  refine⟨t,us,rs,zs,[],rfl,.inr ht16,ra16,gd.1,by omega,by omega,by simp,λp ys F H17 hp k17 e17 fl cf=>?_⟩
  have yl:=fl.len
  have gl:=cf.len
  obtain⟨fq,ec,_,hfq⟩:=fl.get (i:=rs.length-1) (by omega)
  refine⟨_,by rw[e17];rfl,_,jfj (by rw[yl,gl];exact ec),?_⟩
  have k017:=k016.trans k17
  refine⟨a,2,is,rfl,k017.seq (by simp) ha,by omega,by omega,λb4 o18 hb18 ho18=>?_⟩
  have I17:LI H pn t fq zs us rs F H17:=⟨k017,k17.old _ _ hp16 Ae,k17.tup _ _ ht16,ra16.kp k17,hfq⟩
  have npb:pn≠b4:=je I17.hp hb18
  have nfb:fq≠b4:=je I17.hf hb18
  have nb4:H b4=none:=k017.free hb18
  have I18:=I17.keep ((Kp.refl [] H17).new (o:=o18) hb18) (by simp) (by simp) (by simp)
  have sb18:SB (upd H17 b4 o18) b4 (upd H17 b4 o18):=⟨Kp.refl _ _,o18,jb,ho18⟩
  generalize upd H17 b4 o18=H18 at I18 sb18⊢
  have mvB:∀{Ha Hb:Hp},LI H pn t fq zs us rs F Ha->Kp [b4] Ha Hb->LI H pn t fq zs us rs F Hb:=λI k=>I.keep k (by simpa using npb) (by simpa using nfb) λb hb=>by rw[Ah.mp hb];exact nb4
  have mv0:∀{Ha Hb:Hp},LI H pn t fq zs us rs F Ha->Kp [] Ha Hb->LI H pn t fq zs us rs F Hb:=λI k=>I.keep k (by simp) (by simp) (by simp)
  have fsub:∀y∈F.getD (rs.length-1) [],y∈zs:=cf.sub _
  have f3:=gd.2.all cf (rs.length-1)
  have zlo:=hz.lo
  have zhi:=hz.hi
  refine⟨by decide,by decide,jcv (λi σ H'=>∃(v9 v10 v11 v12 v13 v14:Option V),σ=[some (.ref a),some (.ref b4),some (.str zl),some (.ref pn),some (.int sh),some (.int (mo:Int)),some (.int (lo:Int)),some (.ref t),some (.ref fq),v9,v10,v11,v12,v13,v14]/\LI H pn t fq zs us rs F H'/\SB H18 b4 H') ?_ ?_ ?_⟩
  ·exact⟨none,none,none,none,none,none,rfl,I18,sb18⟩
  ·rintro i σ Ha hi ⟨v9,v10,v11,v12,v13,v14,rfl,Ia,sba⟩
   obtain⟨oa,hba,hoa⟩:=sba.bx
   simp!
   refine⟨b4,zl,lo,oa,rfl,hba,hoa,zlo,by omega,by omega,λu ob Hb hul hin hob hbb kb=>?_⟩
   have Ib:=mvB Ia kb
   have sbb:SB H18 b4 Hb:=sba.trans ⟨kb,ob,hbb,hob⟩
   obtain⟨J,hJ⟩:∃J:L2.St->Hp->Prop,J=λσ H'=>∃u:Str,σ=[some (.ref a),some (.ref b4),some (.str zl),some (.ref pn),some (.int sh),some (.int (mo:Int)),some (.int (lo:Int)),some (.ref t),some (.ref fq),some (.int (0+(i:Int))),some (.str u),v11,v12,v13,v14]/\u.length<=10/\(u.length=0->F.getD (rs.length-1) []=[])/\H'=Hb:=⟨_,rfl⟩
   refine⟨J,?_,?_⟩
   ·have go:∀u:Str,u.length<=10->(u.length=0->F.getD (rs.length-1) []=[])->J [some (.ref a),some (.ref b4),some (.str zl),some (.ref pn),some (.int sh),some (.int (mo:Int)),some (.int (lo:Int)),some (.ref t),some (.ref fq),some (.int (0+(i:Int))),some (.str u),v11,v12,v13,v14] Hb:=λu h1 h2=>by rw[hJ];exact⟨u,rfl,h1,h2,rfl⟩
    have hfb:=Ib.hf
    simp! [hfb]
    obtain⟨c,hc⟩:∃c,atI zl.cps.toList 0=some c:=⟨zl.cps.toList[0]'(by simp[Str.length]at zlo;simp;omega),jcg (by decide) (by simp)⟩
    refine ite2 (λe=>ite2 (λh=>⟨by omega,c,hc,go _ (by show 1<=10;decide) λh=>by cases h⟩) (λh=>go u (by omega) λ_=>?_)) (λe=>go u (by omega) λh=>absurd ?_ e)
    ·rw[Ad]at h
     exact Ud.mp (by omega)
    ·cases u with
     |mk cs =>
      have:cs=#[]:=Array.size_eq_zero_iff.mp h
      rw[this];rfl
   rintro σ' H' hj
   rw[hJ]at hj
   clear hJ J hul hin
   obtain⟨u,rfl,hu10,hu0,rfl⟩:=hj
   simp!
   refine⟨by decide,λlq hlq=>?_⟩
   have Ic:=mv0 Ib ((Kp.refl [] H').new (o:=.lst [.ref pn,.ref fq]) hlq)
   have sbc:=sbb.new (x:=.lst [.ref pn,.ref fq]) hlq
   have elq:upd H' lq (.lst [.ref pn,.ref fq]) lq=some (.lst [.ref pn,.ref fq]):=jb
   have nlq:lq≠b4:=sbb.ne hlq
   generalize upd H' lq (.lst [.ref pn,.ref fq])=Hc at Ic sbc elq⊢
   refine sbc.tq (by decide) (by decide) λd Hd d0 d1 sbd kd=>?_
   have Id:=mvB Ic kd
   have elq:=kd.old _ _ elq (by simpa using nlq)
   obtain⟨nm,ns,hnm,hns,nbn,nsl,nsub⟩:∃(nm:Addr)(ns:List Str),atI [V.ref pn,V.ref fq] d=some (.ref nm)/\Hd nm=some (.lst (ns.map V.str))/\b4≠nm/\ns.length<=100/\∀y∈F.getD (rs.length-1) [],y∈ns:=by
    rcases(by omega:d=0\/d=1)with rfl|rfl
    ·exact⟨pn,zs,rfl,Id.hp,npb.symm,by omega,fsub⟩
    ·exact⟨fq,_,rfl,Id.hf,nfb.symm,by omega,λ_ h=>h⟩
   obtain⟨od,hbd,hod⟩:=sbd.bx
   refine⟨_,by rw[elq];rfl,_,hnm,b4,nm,u,ns,od,rfl,hbd,hod,hns,nbn,nsl,hu10,λp1 k1 He sbe hp10 hp1e pd1 kl1 cov1=>?_⟩
   have Ie:=mvB Id sbe.kp
   have nm4:nm≠b4:=nbn.symm
   have hns_e:=sbe.kp.old _ _ hns (by simpa using nm4)
   have np1:p1≠b4:=λz=>by rw[z,hbd]at hp10;cases hp10
   refine rDictK.copy hp1e λp2 hp2=>?_
   have k2:Kp [] He (upd He p2 (.dK (k1.map kI))):=(Kp.refl [] He).new hp2
   have e2:upd He p2 (.dK (k1.map kI)) p2=some (.dK (k1.map kI)):=jb
   have sbf:SB H18 b4 (upd He p2 (.dK (k1.map kI))):=(sbd.trans sbe).new hp2
   have np2:p2≠b4:=sbe.ne hp2
   have np12:p1≠p2:=je hp1e hp2
   generalize upd He p2 (.dK (k1.map kI))=Hf at k2 e2 sbf⊢
   have If:=mv0 Ie k2
   have e1:=k2.old _ _ hp1e Ae
   have hns_f:=k2.old _ _ hns_e Ae
   have cv1:∀y∈F.getD (rs.length-1) [],(.inr y:L2.Key)∈k1.map Prod.fst:=λy hy=>by
    by_cases h0:u.length=0
    ·rw[hu0 h0]at hy;cases hy
    ·exact cov1 h0 y (nsub y hy)
   have as1:=mkAs gd (by omega) n1 n2 hzs hu10 pd1 (by omega) cf cv1
   obtain⟨σ1,hσ1⟩:∃σ1:L2.St,σ1=[some (.ref a),some (.ref b4),some (.str zl),some (.ref pn),some (.int sh),some (.int (mo:Int)),some (.int (lo:Int)),some (.ref t),some (.ref fq),some (.int (0+(i:Int))),some (.str u),some (.ref nm),some (.ref p1),some (.ref p2),v14]:=⟨_,rfl⟩
   have ask:∀{Hx:Hp}{pl:Addr}{ks:List (L2.Key×Int)}{Q':VK},LI H pn t fq zs us rs F Hx->AsK u rs zs ks (rhoP ks)->Hx pl=some (.dK (ks.map kI))->(∀Hy,Kp [] Hx Hy->Q' (.bl (sAt (sms u.cps.toList rs) (rs.length-1) (rhoP ks))) Hy)->spHo [.ref t,.str u,.ref pl] Hx Q' E0:=λIx as e q=>⟨t,_,u,us,rs,zs,_,_,rfl,Ix.ht,Ix.ra,as.ok,as.zl,as.n1,by have:=as.n9;omega,as.okz,by have:=as.hz;omega,e,λF cf=>⟨λk _=>bdm3 as.hz (as.l3.all cf k),as.at_ F cf⟩,q⟩
   refine⟨λσ H'=>σ=σ1/\Kp [] Hf H',?_,?_⟩
   ·rw[hσ1]
    simp!
    exact⟨t,p1,u,us,rs,zs,k1,_,rfl,If.ht,If.ra,as1,e1,λHg kg=>⟨true,rfl,kg⟩⟩
   rintro _ Hg ⟨rfl,kg⟩
   have Ig:=mv0 If kg
   have sbg:=sbf.keep kg
   rw[hσ1]
   simp!
   refine ask Ig as1 (kg.old _ _ e2 Ae) λHh kh=>?_
   have kgh:=kg.trans kh
   have Ih:=mv0 If kgh
   have sbh:=sbf.keep kgh
   have e2h:=kgh.old _ _ e2 Ae
   have e1h:=kgh.old _ _ e1 Ae
   have hns_h:=kgh.old _ _ hns_f Ae
   obtain⟨oh,hbh,hoh⟩:=sbh.bx
   refine⟨_,rfl,p2,rfl,.inl ⟨_,Rd.of e2h⟩,_,rfl,_,rfl,_,rfl,b4,nm,u,ns,oh,rfl,hbh,hoh,hns_h,nbn,nsl,hu10,λp3 k3 Hi sbi hp30 hp3i pd3 kl3 cov3=>?_⟩
   have Ii:=mvB Ih sbi.kp
   have e2i:=sbi.kp.old _ _ e2h (by simpa using np2)
   have e1i:=sbi.kp.old _ _ e1h (by simpa using np1)
   have np23:p2≠p3:=λz=>by rw[<-z,e2h]at hp30;cases hp30
   obtain⟨k4,e4,pd4,me4,kl4⟩:=PD.merge pd1 pd3.lt
   refine⟨_,_,_,rfl,np23,e2i,hp3i,by rw[Ad,Ad];omega,?_⟩
   rw[e4]
   have kj:Kp [p2] Hi (upd Hi p2 (.dK (k4.map kI))):=jfv (Kp.refl [p2] Hi) e2i (λ_ z=>by cases z) (.inl (by simp))
   have e2j:upd Hi p2 (.dK (k4.map kI)) p2=some (.dK (k4.map kI)):=jb
   have hp2H:H p2=none:=Ie.kp.free hp2
   have npp:pn≠p2:=je Ie.hp hp2
   have nfp:fq≠p2:=je Ie.hf hp2
   have Ij:=Ii.keep kj (by simpa using npp) (by simpa using nfp) λb hb=>by rw[Ah.mp hb];exact hp2H
   have e1j:=kj.old _ _ e1i (by simpa using np12)
   have sbj:SB H18 b4 (upd Hi p2 (.dK (k4.map kI))):=by
    obtain⟨oj,hbj,hoj⟩:=(sbh.trans sbi).bx
    exact⟨jfv (sbh.trans sbi).kp e2i (λ_ z=>by cases z) (.inr ((sbd.trans sbe).kp.free hp2)),oj,by rw[jd np2.symm];exact hbj,hoj⟩
   generalize upd Hi p2 (.dK (k4.map kI))=Hj at e2j Ij e1j sbj⊢
   have as4:=mkAs gd (by omega) n1 n2 hzs hu10 pd4 (by omega) cf λy hy=>(me4 _).mpr (.inr (cv1 y hy))
   refine ask Ij as4 e2j λHk kk=>?_
   have Ik:=mv0 Ij kk
   refine⟨t,p2,u,us,rs,zs,k4,_,rfl,Ik.ht,Ik.ra,as4,kk.old _ _ e2j Ae,λHl kl=>?_⟩
   have Il:=mv0 Ik kl
   have kkl:=kk.trans kl
   refine⟨_,rfl,?_⟩
   rw[Ol rfl,At (by decide)]
   refine⟨t,p1,u,us,rs,zs,k1,_,rfl,Il.ht,Il.ra,as1,kkl.old _ _ e1j Ae,λHm km=>⟨true,rfl,?_⟩⟩
   exact⟨_,_,_,_,_,_,⟨rfl,rfl,rfl,rfl,rfl,rfl⟩,mv0 Il km,sbj.keep (kkl.trans km)⟩
  ·rintro σ Ha ⟨v9,v10,v11,v12,v13,v14,rfl,Ia,sba⟩
   simp!
   exact kQ Ha
end
theorem us1{C:List Value->Prop}(h:∀v0:Value,C [v0])(us:List Value)(e:us.length=1):C us:=by
 cases us with
 |nil=>exact absurd e.symm (A1 _)
 |cons v0 us =>
  cases us with
  |nil=>exact h v0
  |cons _ _=>exact absurd (An (e)) (A1 _)
theorem us2{C:List Value->Prop}(h:∀v0 v1:Value,C [v0,v1])(us:List Value)(e:us.length=2):C us:=by
 cases us with
 |nil=>exact absurd e.symm (A1 _)
 |cons v0 us =>
  cases us with
  |nil=>exact absurd (An (e.symm)) (A1 _)
  |cons v1 us =>
   cases us with
   |nil=>exact h v0 v1
   |cons _ _=>exact absurd (An (An (e))) (A1 _)
theorem us3{C:List Value->Prop}(h:∀v0 v1 v2:Value,C [v0,v1,v2])(us:List Value)(e:us.length=3):C us:=by
 cases us with
 |nil=>exact absurd e.symm (A1 _)
 |cons v0 us =>
  cases us with
  |nil=>exact absurd (An (e.symm)) (A1 _)
  |cons v1 us =>
   cases us with
   |nil=>exact absurd (An (An (e.symm))) (A1 _)
   |cons v2 us =>
    cases us with
    |nil=>exact h v0 v1 v2
    |cons _ _=>exact absurd (An (An (An (e)))) (A1 _)
theorem us4{C:List Value->Prop}(h:∀v0 v1 v2 v3:Value,C [v0,v1,v2,v3])(us:List Value)(e:us.length=4):C us:=by
 cases us with
 |nil=>exact absurd e.symm (A1 _)
 |cons v0 us =>
  cases us with
  |nil=>exact absurd (An (e.symm)) (A1 _)
  |cons v1 us =>
   cases us with
   |nil=>exact absurd (An (An (e.symm))) (A1 _)
   |cons v2 us =>
    cases us with
    |nil=>exact absurd (An (An (An (e.symm)))) (A1 _)
    |cons v3 us =>
     cases us with
     |nil=>exact h v0 v1 v2 v3
     |cons _ _=>exact absurd (An (An (An (An (e))))) (A1 _)
theorem us5{C:List Value->Prop}(h:∀v0 v1 v2 v3 v4:Value,C [v0,v1,v2,v3,v4])(us:List Value)(e:us.length=5):C us:=by
 cases us with
 |nil=>exact absurd e.symm (A1 _)
 |cons v0 us =>
  cases us with
  |nil=>exact absurd (An (e.symm)) (A1 _)
  |cons v1 us =>
   cases us with
   |nil=>exact absurd (An (An (e.symm))) (A1 _)
   |cons v2 us =>
    cases us with
    |nil=>exact absurd (An (An (An (e.symm)))) (A1 _)
    |cons v3 us =>
     cases us with
     |nil=>exact absurd (An (An (An (An (e.symm))))) (A1 _)
     |cons v4 us =>
      cases us with
      |nil=>exact h v0 v1 v2 v3 v4
      |cons _ _=>exact absurd (An (An (An (An (An (e)))))) (A1 _)
theorem us6{C:List Value->Prop}(h:∀v0 v1 v2 v3 v4 v5:Value,C [v0,v1,v2,v3,v4,v5])(us:List Value)(e:us.length=6):C us:=by
 cases us with
 |nil=>exact absurd e.symm (A1 _)
 |cons v0 us =>
  cases us with
  |nil=>exact absurd (An (e.symm)) (A1 _)
  |cons v1 us =>
   cases us with
   |nil=>exact absurd (An (An (e.symm))) (A1 _)
   |cons v2 us =>
    cases us with
    |nil=>exact absurd (An (An (An (e.symm)))) (A1 _)
    |cons v3 us =>
     cases us with
     |nil=>exact absurd (An (An (An (An (e.symm))))) (A1 _)
     |cons v4 us =>
      cases us with
      |nil=>exact absurd (An (An (An (An (An (e.symm)))))) (A1 _)
      |cons v5 us =>
       cases us with
       |nil=>exact h v0 v1 v2 v3 v4 v5
       |cons _ _=>exact absurd (An (An (An (An (An (An (e))))))) (A1 _)
theorem all_mk{l:PySem.W.OpenLaw}{w:World}{K:PySem.W.Frag}{h:Heap}{mg:Str->Option Value}{fa f1 f2 f3 f4 f5 f6 f7 f8 f9 f10 f11 f12 f13 f14 f15 f16 f17 f18 f19 f20 f21 f22 f23 f24 f25 f26 f27 f28:Addr}(X:K.In h)(G:h.Ns mainGlobals mg)(hfa:mg "law"=some (.ref fa))
  {od1 od2 od3 od4 od5 od6 od7 od8 od9 od10 od11 od12 od13 od14 od15 od16 od17 od18 od19 od20 od21 od22 od23 od24 od25 od26 od27 od28 an1 an2 an3 an4 an5 an6 an7 an8 an9 an10 an11 an12 an13 an14 an15 an16 an17 an18 an19 an20 an21 an22 an23 an24 an25 an26 an27 an28:Option Addr}{sl1 sl2 sl3 sl4 sl5 sl6 sl7 sl8 sl9 sl10 sl11 sl12 sl13 sl14 sl15 sl16 sl17 sl18 sl19 sl20 sl21 sl22 sl23 sl24 sl25 sl26 sl27 sl28:Array (Option Value)}{oc1 kV1 dc1 pm1 cd1 ct1 oc2 kV2 dc2 pm2 cd2 ct2 oc3 kV3 dc3 pm3 cd3 ct3 oc4 kV4 dc4 pm4 cd4 ct4 oc5 kV5 dc5 pm5 cd5 ct5 oc6 kV6 dc6 pm6 cd6 ct6 oc7 kV7 dc7 pm7 cd7 ct7 oc8 kV8 dc8 pm8 cd8 ct8 oc9 kV9 dc9 pm9 cd9 ct9 oc10 kV10 dc10 pm10 cd10 ct10 oc11 kV11 dc11 pm11 cd11 ct11 oc12 kV12 dc12 pm12 cd12 ct12 oc13 kV13 dc13 pm13 cd13 ct13 oc14 kV14 dc14 pm14 cd14 ct14 oc15 kV15 dc15 pm15 cd15 ct15 oc16 kV16 dc16 pm16 cd16 ct16 oc17 kV17 dc17 pm17 cd17 ct17 oc18 kV18 dc18 pm18 cd18 ct18 oc19 kV19 dc19 pm19 cd19 ct19 oc20 kV20 dc20 pm20 cd20 ct20 oc21 kV21 dc21 pm21 cd21 ct21 oc22 kV22 dc22 pm22 cd22 ct22 oc23 kV23 dc23 pm23 cd23 ct23 oc24 kV24 dc24 pm24 cd24 ct24 oc25 kV25 dc25 pm25 cd25 ct25 oc26 kV26 dc26 pm26 cd26 ct26 oc27 kV27 dc27 pm27 cd27 ct27 oc28 kV28 dc28 pm28 cd28 ct28:Value}
  {C:Addr}{M0:Addr}{vd0 va0:Option Addr}{vs0:Array (Option Value)}{vo0 vk0 vq0 vp0 vc0 vt0:Value}{M1:Addr}{vd1 va1:Option Addr}{vs1:Array (Option Value)}{vo1 vk1 vq1 vp1 vc1 vt1:Value}{M2:Addr}{vd2 va2:Option Addr}{vs2:Array (Option Value)}{vo2 vk2 vq2 vp2 vc2 vt2:Value}{M3:Addr}{vd3 va3:Option Addr}{vs3:Array (Option Value)}{vo3 vk3 vq3 vp3 vc3 vt3:Value}{an:Addr}{odn:Option Addr}{itn:Array Value}{nn:Nat}{sln:Array (Option Value)}
  (a1:PySem.W.nsIn K mainGlobals "parts_of"=some (some (.ref f1))) (l1:K.lookup f1=some ⟨oc1,od1,.func (PySem.W.fnOf "parts_of" "parts_of" (jx zc) (jw zc) (jh zc) .none kV1 dc1 pm1 an1 cd1 ct1),sl1⟩) (c1:PySem.W.codeIn K cd1 "parts_of"=true) (k1:PySem.W.keepIn K (.ref f1)=true)
  (a2:PySem.W.nsIn K mainGlobals "names_of_rows"=some (some (.ref f2))) (l2:K.lookup f2=some ⟨oc2,od2,.func (PySem.W.fnOf "names_of_rows" "names_of_rows" (jx ym) (jw ym) (jh ym) .none kV2 dc2 pm2 an2 cd2 ct2),sl2⟩) (c2:PySem.W.codeIn K cd2 "names_of_rows"=true) (k2:PySem.W.keepIn K (.ref f2)=true)
  (a3:PySem.W.nsIn K mainGlobals "names_of_row"=some (some (.ref f3))) (l3:K.lookup f3=some ⟨oc3,od3,.func (PySem.W.fnOf "names_of_row" "names_of_row" (jx yj) (jw yj) (jh yj) .none kV3 dc3 pm3 an3 cd3 ct3),sl3⟩) (c3:PySem.W.codeIn K cd3 "names_of_row"=true) (k3:PySem.W.keepIn K (.ref f3)=true)
  (a4:PySem.W.nsIn K mainGlobals "holds"=some (some (.ref f4))) (l4:K.lookup f4=some ⟨oc4,od4,.func (PySem.W.fnOf "holds" "holds" (jx zq) (jw zq) (jh zq) .none kV4 dc4 pm4 an4 cd4 ct4),sl4⟩) (c4:PySem.W.codeIn K cd4 "holds"=true) (k4:PySem.W.keepIn K (.ref f4)=true)
  (a5:PySem.W.nsIn K mainGlobals "row_truths"=some (some (.ref f5))) (l5:K.lookup f5=some ⟨oc5,od5,.func (PySem.W.fnOf "row_truths" "row_truths" (jx ya) (jw ya) (jh ya) .none kV5 dc5 pm5 an5 cd5 ct5),sl5⟩) (c5:PySem.W.codeIn K cd5 "row_truths"=true) (k5:PySem.W.keepIn K (.ref f5)=true)
  (a6:PySem.W.nsIn K mainGlobals "ahead_truths"=some (some (.ref f6))) (l6:K.lookup f6=some ⟨oc6,od6,.func (PySem.W.fnOf "ahead_truths" "ahead_truths" (jx yi) (jw yi) (jh yi) .none kV6 dc6 pm6 an6 cd6 ct6),sl6⟩) (c6:PySem.W.codeIn K cd6 "ahead_truths"=true) (k6:PySem.W.keepIn K (.ref f6)=true)
  (a7:PySem.W.nsIn K mainGlobals "widened"=some (some (.ref f7))) (l7:K.lookup f7=some ⟨oc7,od7,.func (PySem.W.fnOf "widened" "widened" (jx zj) (jw zj) (jh zj) .none kV7 dc7 pm7 an7 cd7 ct7),sl7⟩) (c7:PySem.W.codeIn K cd7 "widened"=true) (k7:PySem.W.keepIn K (.ref f7)=true)
  (a8:PySem.W.nsIn K mainGlobals "bound_truths"=some (some (.ref f8))) (l8:K.lookup f8=some ⟨oc8,od8,.func (PySem.W.fnOf "bound_truths" "bound_truths" (jx ko) (jw ko) (jh ko) .none kV8 dc8 pm8 an8 cd8 ct8),sl8⟩) (c8:PySem.W.codeIn K cd8 "bound_truths"=true) (k8:PySem.W.keepIn K (.ref f8)=true)
  (a9:PySem.W.nsIn K mainGlobals "one_place_more"=some (some (.ref f9))) (l9:K.lookup f9=some ⟨oc9,od9,.func (PySem.W.fnOf "one_place_more" "one_place_more" (jx yf) (jw yf) (jh yf) .none kV9 dc9 pm9 an9 cd9 ct9),sl9⟩) (c9:PySem.W.codeIn K cd9 "one_place_more"=true) (k9:PySem.W.keepIn K (.ref f9)=true)
  (a10:PySem.W.nsIn K mainGlobals "_law_box"=some (some (.ref f10))) (l10:K.lookup f10=some ⟨oc10,od10,.func (PySem.W.fnOf "_law_box" "_law_box" (jx zk) (jw zk) (jh zk) .none kV10 dc10 pm10 an10 cd10 ct10),sl10⟩) (c10:PySem.W.codeIn K cd10 "_law_box"=true) (k10:PySem.W.keepIn K (.ref f10)=true)
  (a11:PySem.W.nsIn K mainGlobals "_law_take"=some (some (.ref f11))) (l11:K.lookup f11=some ⟨oc11,od11,.func (PySem.W.fnOf "_law_take" "_law_take" (jx j7) (jw j7) (jh j7) .none kV11 dc11 pm11 an11 cd11 ct11),sl11⟩) (c11:PySem.W.codeIn K cd11 "_law_take"=true) (k11:PySem.W.keepIn K (.ref f11)=true)
  (a12:PySem.W.nsIn K mainGlobals "_law_letters"=some (some (.ref f12))) (l12:K.lookup f12=some ⟨oc12,od12,.func (PySem.W.fnOf "_law_letters" "_law_letters" (jx yr) (jw yr) (jh yr) .none kV12 dc12 pm12 an12 cd12 ct12),sl12⟩) (c12:PySem.W.codeIn K cd12 "_law_letters"=true) (k12:PySem.W.keepIn K (.ref f12)=true)
  (a13:PySem.W.nsIn K mainGlobals "_law_text"=some (some (.ref f13))) (l13:K.lookup f13=some ⟨oc13,od13,.func (PySem.W.fnOf "_law_text" "_law_text" (jx y0) (jw y0) (jh y0) .none kV13 dc13 pm13 an13 cd13 ct13),sl13⟩) (c13:PySem.W.codeIn K cd13 "_law_text"=true) (k13:PySem.W.keepIn K (.ref f13)=true)
  (a14:PySem.W.nsIn K mainGlobals "_law_row_at"=some (some (.ref f14))) (l14:K.lookup f14=some ⟨oc14,od14,.func (PySem.W.fnOf "_law_row_at" "_law_row_at" (jx yy) (jw yy) (jh yy) .none kV14 dc14 pm14 an14 cd14 ct14),sl14⟩) (c14:PySem.W.codeIn K cd14 "_law_row_at"=true) (k14:PySem.W.keepIn K (.ref f14)=true)
  (a15:PySem.W.nsIn K mainGlobals "_law_place_names"=some (some (.ref f15))) (l15:K.lookup f15=some ⟨oc15,od15,.func (PySem.W.fnOf "_law_place_names" "_law_place_names" (jx ke) (jw ke) (jh ke) .none kV15 dc15 pm15 an15 cd15 ct15),sl15⟩) (c15:PySem.W.codeIn K cd15 "_law_place_names"=true) (k15:PySem.W.keepIn K (.ref f15)=true)
  (a16:PySem.W.nsIn K mainGlobals "_law_saying_rows"=some (some (.ref f16))) (l16:K.lookup f16=some ⟨oc16,od16,.func (PySem.W.fnOf "_law_saying_rows" "_law_saying_rows" (jx kz) (jw kz) (jh kz) .none kV16 dc16 pm16 an16 cd16 ct16),sl16⟩) (c16:PySem.W.codeIn K cd16 "_law_saying_rows"=true) (k16:PySem.W.keepIn K (.ref f16)=true)
  (a17:PySem.W.nsIn K mainGlobals "_law_names_of"=some (some (.ref f17))) (l17:K.lookup f17=some ⟨oc17,od17,.func (PySem.W.fnOf "_law_names_of" "_law_names_of" (jx kx) (jw kx) (jh kx) .none kV17 dc17 pm17 an17 cd17 ct17),sl17⟩) (c17:PySem.W.codeIn K cd17 "_law_names_of"=true) (k17:PySem.W.keepIn K (.ref f17)=true)
  (a18:PySem.W.nsIn K mainGlobals "_law_frees"=some (some (.ref f18))) (l18:K.lookup f18=some ⟨oc18,od18,.func (PySem.W.fnOf "_law_frees" "_law_frees" (jx yk) (jw yk) (jh yk) .none kV18 dc18 pm18 an18 cd18 ct18),sl18⟩) (c18:PySem.W.codeIn K cd18 "_law_frees"=true) (k18:PySem.W.keepIn K (.ref f18)=true)
  (a19:PySem.W.nsIn K mainGlobals "_law_deep"=some (some (.ref f19))) (l19:K.lookup f19=some ⟨oc19,od19,.func (PySem.W.fnOf "_law_deep" "_law_deep" (jx yz) (jw yz) (jh yz) .none kV19 dc19 pm19 an19 cd19 ct19),sl19⟩) (c19:PySem.W.codeIn K cd19 "_law_deep"=true) (k19:PySem.W.keepIn K (.ref f19)=true)
  (a20:PySem.W.nsIn K mainGlobals "_law_rows_to"=some (some (.ref f20))) (l20:K.lookup f20=some ⟨oc20,od20,.func (PySem.W.fnOf "_law_rows_to" "_law_rows_to" (jx yt) (jw yt) (jh yt) .none kV20 dc20 pm20 an20 cd20 ct20),sl20⟩) (c20:PySem.W.codeIn K cd20 "_law_rows_to"=true) (k20:PySem.W.keepIn K (.ref f20)=true)
  (a21:PySem.W.nsIn K mainGlobals "_law_shut"=some (some (.ref f21))) (l21:K.lookup f21=some ⟨oc21,od21,.func (PySem.W.fnOf "_law_shut" "_law_shut" (jx zf) (jw zf) (jh zf) .none kV21 dc21 pm21 an21 cd21 ct21),sl21⟩) (c21:PySem.W.codeIn K cd21 "_law_shut"=true) (k21:PySem.W.keepIn K (.ref f21)=true)
  (a22:PySem.W.nsIn K mainGlobals "_law_true"=some (some (.ref f22))) (l22:K.lookup f22=some ⟨oc22,od22,.func (PySem.W.fnOf "_law_true" "_law_true" (jx yb) (jw yb) (jh yb) .none kV22 dc22 pm22 an22 cd22 ct22),sl22⟩) (c22:PySem.W.codeIn K cd22 "_law_true"=true) (k22:PySem.W.keepIn K (.ref f22)=true)
  (a23:PySem.W.nsIn K mainGlobals "_law_said"=some (some (.ref f23))) (l23:K.lookup f23=some ⟨oc23,od23,.func (PySem.W.fnOf "_law_said" "_law_said" (jx yv) (jw yv) (jh yv) .none kV23 dc23 pm23 an23 cd23 ct23),sl23⟩) (c23:PySem.W.codeIn K cd23 "_law_said"=true) (k23:PySem.W.keepIn K (.ref f23)=true)
  (a24:PySem.W.nsIn K mainGlobals "_law_due"=some (some (.ref f24))) (l24:K.lookup f24=some ⟨oc24,od24,.func (PySem.W.fnOf "_law_due" "_law_due" (jx y9) (jw y9) (jh y9) .none kV24 dc24 pm24 an24 cd24 ct24),sl24⟩) (c24:PySem.W.codeIn K cd24 "_law_due"=true) (k24:PySem.W.keepIn K (.ref f24)=true)
  (a25:PySem.W.nsIn K mainGlobals "_law_doubled"=some (some (.ref f25))) (l25:K.lookup f25=some ⟨oc25,od25,.func (PySem.W.fnOf "_law_doubled" "_law_doubled" (jx yq) (jw yq) (jh yq) .none kV25 dc25 pm25 an25 cd25 ct25),sl25⟩) (c25:PySem.W.codeIn K cd25 "_law_doubled"=true) (k25:PySem.W.keepIn K (.ref f25)=true)
  (a26:PySem.W.nsIn K mainGlobals "_law_places"=some (some (.ref f26))) (l26:K.lookup f26=some ⟨oc26,od26,.func (PySem.W.fnOf "_law_places" "_law_places" (jx yo) (jw yo) (jh yo) .none kV26 dc26 pm26 an26 cd26 ct26),sl26⟩) (c26:PySem.W.codeIn K cd26 "_law_places"=true) (k26:PySem.W.keepIn K (.ref f26)=true)
  (a27:PySem.W.nsIn K mainGlobals "_law_meets"=some (some (.ref f27))) (l27:K.lookup f27=some ⟨oc27,od27,.func (PySem.W.fnOf "_law_meets" "_law_meets" (jx y6) (jw y6) (jh y6) .none kV27 dc27 pm27 an27 cd27 ct27),sl27⟩) (c27:PySem.W.codeIn K cd27 "_law_meets"=true) (k27:PySem.W.keepIn K (.ref f27)=true)
  (a28:PySem.W.nsIn K mainGlobals "law"=some (some (.ref f28))) (l28:K.lookup f28=some ⟨oc28,od28,.func (PySem.W.fnOf "law" "law" (jx jai) (jw jai) (jh jai) .none kV28 dc28 pm28 an28 cd28 ct28),sl28⟩) (c28:PySem.W.codeIn K cd28 "law"=true) (k28:PySem.W.keepIn K (.ref f28)=true)
  (z_len:PySem.W.nsIn K mainGlobals "len"=some none)
  (z_int:PySem.W.nsIn K mainGlobals "int"=some none)
  (z_range:PySem.W.nsIn K mainGlobals "range"=some none)
  (z_list:PySem.W.nsIn K mainGlobals "list"=some none)
  (z_tuple:PySem.W.nsIn K mainGlobals "tuple"=some none)
  (z_isinstance:PySem.W.nsIn K mainGlobals "isinstance"=some none)
  (z_bool:PySem.W.nsIn K mainGlobals "bool"=some none)
  (z_sorted:PySem.W.nsIn K mainGlobals "sorted"=some none)
  (z_set:PySem.W.nsIn K mainGlobals "set"=some none)
  (z_zip:PySem.W.nsIn K mainGlobals "zip"=some none)
  (z_any:PySem.W.nsIn K mainGlobals "any"=some none)
  (z_all:PySem.W.nsIn K mainGlobals "all"=some none)
  (z_dict:PySem.W.nsIn K mainGlobals "dict"=some none)
  (z_max:PySem.W.nsIn K mainGlobals "max"=some none)
  (aC:PySem.W.nsIn K mainGlobals "Choices"=some (some (.ref C)))
  (Cpg:PySem.W.plainGet K C Str.empty=true)
  (Chd:PySem.W.hasDictIn K C=true)
  (Cpo:PySem.W.plainOver K C=true)
  (Csa:PySem.W.findIn K (.ref C) "__setattr__"=some (some (.builtin "object.__setattr__")))
  (Cmk:PySem.W.makesIn K C=true)
  (Ckp:PySem.W.keepIn K (.ref C)=true)
  (Nmany:PySem.W.findIn K (.ref C) "many"=some none)
  (Nknown:PySem.W.findIn K (.ref C) "known"=some none)
  (fm0:PySem.W.findIn K (.ref C) "__init__"=some (some (.ref M0)))
  (lm0:K.lookup M0=some ⟨vo0,vd0,.func (PySem.W.fnOf "__init__" "Choices.__init__" (jx zy) (jw zy) (jh zy) .none vk0 vq0 vp0 va0 vc0 vt0),vs0⟩)
  (cm0:PySem.W.codeIn K vc0 "Choices.__init__"=true)
  (km0:PySem.W.keepIn K (.ref M0)=true)
  (im0:PySem.W.isFn K (.ref M0)=true)
  (fm1:PySem.W.findIn K (.ref C) "all_of"=some (some (.ref M1)))
  (lm1:K.lookup M1=some ⟨vo1,vd1,.func (PySem.W.fnOf "all_of" "Choices.all_of" (jx zp) (jw zp) (jh zp) .none vk1 vq1 vp1 va1 vc1 vt1),vs1⟩)
  (cm1:PySem.W.codeIn K vc1 "Choices.all_of"=true)
  (km1:PySem.W.keepIn K (.ref M1)=true)
  (im1:PySem.W.isFn K (.ref M1)=true)
  (fm2:PySem.W.findIn K (.ref C) "number_of"=some (some (.ref M2)))
  (lm2:K.lookup M2=some ⟨vo2,vd2,.func (PySem.W.fnOf "number_of" "Choices.number_of" (jx y3) (jw y3) (jh y3) .none vk2 vq2 vp2 va2 vc2 vt2),vs2⟩)
  (cm2:PySem.W.codeIn K vc2 "Choices.number_of"=true)
  (km2:PySem.W.keepIn K (.ref M2)=true)
  (im2:PySem.W.isFn K (.ref M2)=true)
  (fm3:PySem.W.findIn K (.ref C) "numbers_within"=some (some (.ref M3)))
  (lm3:K.lookup M3=some ⟨vo3,vd3,.func (PySem.W.fnOf "numbers_within" "Choices.numbers_within" (jx j4) (jw j4) (jh j4) .none vk3 vq3 vp3 va3 vc3 vt3),vs3⟩)
  (cm3:PySem.W.codeIn K vc3 "Choices.numbers_within"=true)
  (km3:PySem.W.keepIn K (.ref M3)=true)
  (im3:PySem.W.isFn K (.ref M3)=true)
  (en:PySem.W.nsIn K mainGlobals "BINDING"=some (some (.ref an)))
  (ln:K.lookup an=some ⟨.type "tuple",odn,.seq itn nn,sln⟩)
  (vn:Vals BN itn.toList)
  : ∃fd:FuncData,(∀(s:Shared)(v:Value),BindsTo s fd ⟨[v],[]⟩ [("_law_script",v)])/\∀base:Heap,K.In base->base.Ns mainGlobals mg->FnOk l.prog w K mg base CX0 126 fa fd ["_law_script"] (jhz K):=by
 have e:=hfa.symm.trans (A3 X G a28)
 cases e
 have F27z:=jcj (st:=zc) l1 c1 k1
 have m27z:=A3 X G a1
 have b27z:=F27z.binds (ps:=["row"]) λ_ _ _ _ _ _=>us1 λ_=>rfl
 have F24z:=jcj (st:=ym) l2 c2 k2
 have m24z:=A3 X G a2
 have b24z:=F24z.binds (ps:=["saying"]) λ_ _ _ _ _ _=>us1 λ_=>rfl
 have F23z:=jcj (st:=yj) l3 c3 k3
 have m23z:=A3 X G a3
 have b23z:=F23z.binds (ps:=["row","names"]) λ_ _ _ _ _ _=>us2 λ_ _=>rfl
 have F4z:=jcj (st:=zq) l4 c4 k4
 have m4z:=A3 X G a4
 have b4z:=F4z.binds (ps:=["saying","text","places"]) λ_ _ _ _ _ _=>us3 λ_ _ _=>rfl
 have F28z:=jcj (st:=ya) l5 c5 k5
 have m28z:=A3 X G a5
 have b28z:=F28z.binds (ps:=["row","own","names","truths","text","choices"]) λ_ _ _ _ _ _=>us6 λ_ _ _ _ _ _=>rfl
 have F21z:=jcj (st:=yi) l6 c6 k6
 have m21z:=A3 X G a6
 have b21z:=F21z.binds (ps:=["one","other","chosen"]) λ_ _ _ _ _ _=>us3 λ_ _ _=>rfl
 have F8z:=jcj (st:=zj) l7 c7 k7
 have m8z:=A3 X G a7
 have b8z:=F8z.binds (ps:=["truths","names","more","choices"]) λ_ _ _ _ _ _=>us4 λ_ _ _ _=>rfl
 have F22z:=jcj (st:=ko) l8 c8 k8
 have m22z:=A3 X G a8
 have b22z:=F22z.binds (ps:=["word","inner","groups","many"]) λ_ _ _ _ _ _=>us4 λ_ _ _ _=>rfl
 have F26z:=jcj (st:=yf) l9 c9 k9
 have m26z:=A3 X G a9
 have b26z:=F26z.binds (ps:=["chosen","many"]) λ_ _ _ _ _ _=>us2 λ_ _=>rfl
 have F6z:=jcj (st:=zk) l10 c10 k10
 have m6z:=A3 X G a10
 have b6z:=F6z.binds (ps:=["_law_script","_law_k"]) λ_ _ _ _ _ _=>us2 λ_ _=>rfl
 have F0z:=jcj (st:=j7) l11 c11 k11
 have m0z:=A3 X G a11
 have b0z:=F0z.binds (ps:=["_law_box_here","_law_wide"]) λ_ _ _ _ _ _=>us2 λ_ _=>rfl
 have F15z:=jcj (st:=yr) l12 c12 k12
 have m15z:=A3 X G a12
 have b15z:=F15z.binds (ps:=["_law_box_here","_law_most"]) λ_ _ _ _ _ _=>us2 λ_ _=>rfl
 have F20z:=jcj (st:=y0) l13 c13 k13
 have m20z:=A3 X G a13
 have b20z:=F20z.binds (ps:=["_law_box_here","_law_letters_here","_law_most"]) λ_ _ _ _ _ _=>us3 λ_ _ _=>rfl
 have F7z:=jcj (st:=yy) l14 c14 k14
 have m7z:=A3 X G a14
 have b7z:=F7z.binds (ps:=["_law_box_here","_law_k"]) λ_ _ _ _ _ _=>us2 λ_ _=>rfl
 have F16z:=jcj (st:=ke) l15 c15 k15
 have m16z:=A3 X G a15
 have b16z:=F16z.binds (ps:=["_law_box_here","_law_many"]) λ_ _ _ _ _ _=>us2 λ_ _=>rfl
 have F18z:=jcj (st:=kz) l16 c16 k16
 have m18z:=A3 X G a16
 have b18z:=F18z.binds (ps:=["_law_box_here","_law_letters_here","_law_names","_law_most"]) λ_ _ _ _ _ _=>us4 λ_ _ _ _=>rfl
 have F3z:=jcj (st:=kx) l17 c17 k17
 have m3z:=A3 X G a17
 have b3z:=F3z.binds (ps:=["_law_row","_law_frees_here"]) λ_ _ _ _ _ _=>us2 λ_ _=>rfl
 have F2z:=jcj (st:=yk) l18 c18 k18
 have m2z:=A3 X G a18
 have b2z:=F2z.binds (ps:=["_law_saying"]) λ_ _ _ _ _ _=>us1 λ_=>rfl
 have F10z:=jcj (st:=yz) l19 c19 k19
 have m10z:=A3 X G a19
 have b10z:=F10z.binds (ps:=["_law_row","_law_depths"]) λ_ _ _ _ _ _=>us2 λ_ _=>rfl
 have F17z:=jcj (st:=yt) l20 c20 k20
 have m17z:=A3 X G a20
 have b17z:=F17z.binds (ps:=["_law_box_here","_law_letters_here","_law_names","_law_most","_law_deep_here"]) λ_ _ _ _ _ _=>us5 λ_ _ _ _ _=>rfl
 have F19z:=jcj (st:=zf) l21 c21 k21
 have m19z:=A3 X G a21
 have b19z:=F19z.binds (ps:=["_law_box_here","_law_rows"]) λ_ _ _ _ _ _=>us2 λ_ _=>rfl
 have F1z:=jcj (st:=yb) l22 c22 k22
 have m1z:=A3 X G a22
 have b1z:=F1z.binds (ps:=["_law_saying","_law_frees_here","_law_at","_law_text_here","_law_places_here","_law_known"]) λ_ _ _ _ _ _=>us6 λ_ _ _ _ _ _=>rfl
 have F9z:=jcj (st:=yv) l23 c23 k23
 have m9z:=A3 X G a23
 have b9z:=F9z.binds (ps:=["_law_saying","_law_frees_here","_law_at","_law_text_here","_law_places_here","_law_known"]) λ_ _ _ _ _ _=>us6 λ_ _ _ _ _ _=>rfl
 have F5z:=jcj (st:=y9) l24 c24 k24
 have m5z:=A3 X G a24
 have b5z:=F5z.binds (ps:=["_law_saying","_law_text_here","_law_places_here"]) λ_ _ _ _ _ _=>us3 λ_ _ _=>rfl
 have F14z:=jcj (st:=yq) l25 c25 k25
 have m14z:=A3 X G a25
 have b14z:=F14z.binds (ps:=["_law_box_here","_law_rows"]) λ_ _ _ _ _ _=>us2 λ_ _=>rfl
 have F12z:=jcj (st:=yo) l26 c26 k26
 have m12z:=A3 X G a26
 have b12z:=F12z.binds (ps:=["_law_box_here","_law_names","_law_text_here"]) λ_ _ _ _ _ _=>us3 λ_ _ _=>rfl
 have F11z:=jcj (st:=y6) l27 c27 k27
 have m11z:=A3 X G a27
 have b11z:=F11z.binds (ps:=["_law_saying","_law_text_here","_law_places_here"]) λ_ _ _ _ _ _=>us3 λ_ _ _=>rfl
 have F_law:=jcj (st:=jai) l28 c28 k28
 have m_law:=A3 X G a28
 have b_law:=F_law.binds (ps:=["_law_script"]) λ_ _ _ _ _ _=>us1 λ_=>rfl
 have n_len:=Iy X G z_len
 have n_int:=Iy X G z_int
 have n_range:=Iy X G z_range
 have n_list:=Iy X G z_list
 have n_tuple:=Iy X G z_tuple
 have n_isinstance:=Iy X G z_isinstance
 have n_bool:=Iy X G z_bool
 have n_sorted:=Iy X G z_sorted
 have n_set:=Iy X G z_set
 have n_zip:=Iy X G z_zip
 have n_any:=Iy X G z_any
 have n_all:=Iy X G z_all
 have n_dict:=Iy X G z_dict
 have n_max:=Iy X G z_max
 refine⟨PySem.W.fnOf "law" "law" (jx jai) (jw jai) (jh jai) .none kV28 dc28 pm28 an28 cd28 ct28,λs v=>.of_eq rfl,λbase _ _=>?_⟩
 have si:PySem.W.kitOne K (.type "str") (.type "int")=some false:=by
  unfold PySem.W.kitOne
  rw[At (by decide)]
  unfold PySem.W.kitCls
  first|rfl|decide +kernel|simp
 have bb:PySem.W.kitOne K (.type "bool") (.type "bool")=some true:=Ap (by simp)
 have ii:PySem.W.kitOne K (.type "int") (.type "int")=some true:=Ap (by simp)
 have kn:∀H,SqT K H an BN:=λH=>.inr ⟨_,itn,nn,ln,rfl,rfl,by have:=vn.length;simp[BN]at this;have hs:sizeLine=16777216:=Aq;omega,vn⟩
 have m_Choices:=A3 X G aC
 have cls:Cls K C:=⟨Cpg,Chd,Cpo,Csa⟩
 have rc:CK K C:=⟨cls,Nmany,Nknown⟩
 have F29z:=jcj (st:=zy) lm0 cm0 km0
 have b29z:=F29z.binds (ps:=["self","many"]) λ_ _ _ _ _ _=>us2 λ_ _=>rfl
 have F13z:=jcj (st:=zp) lm1 cm1 km1
 have b13z:=F13z.binds (ps:=["self","names"]) λ_ _ _ _ _ _=>us2 λ_ _=>rfl
 have d_all_of:Meth K C "all_of" M1:=⟨fm1,im1,km1⟩
 have F25z:=jcj (st:=y3) lm2 cm2 km2
 have b25z:=F25z.binds (ps:=["self","choice"]) λ_ _ _ _ _ _=>us2 λ_ _=>rfl
 have d_number_of:Meth K C "number_of" M2:=⟨fm2,im2,km2⟩
 have F30z:=jcj (st:=j4) lm3 cm3 km3
 have b30z:=F30z.binds (ps:=["self","names","more"]) λ_ _ _ _ _ _=>us3 λ_ _ _=>rfl
 have d_numbers_within:Meth K C "numbers_within" M3:=⟨fm3,im3,km3⟩
 have mkR:Mk K C M0:=⟨Cmk,fm0,im0,Ckp⟩
 have g0z:=ok__law_take (P:=l.prog) (w:=w) (mg:=mg) (base:=base) F0z
 have g6z:=ok__law_box (P:=l.prog) (w:=w) (mg:=mg) (base:=base) F6z ⟨n_len,n_int⟩
 have g15z:=ok__law_letters (P:=l.prog) (w:=w) (mg:=mg) (base:=base) F15z ⟨n_len,n_list,n_range,m0z⟩ F0z b0z g0z
 have g16z:=ok__law_place_names (P:=l.prog) (w:=w) (mg:=mg) (base:=base) F16z ⟨n_range,m0z⟩ F0z b0z g0z
 have g20z:=ok__law_text (P:=l.prog) (w:=w) (mg:=mg) (base:=base) F20z ⟨n_len,n_range,m0z⟩ F0z b0z g0z
 have g27z:=ok_parts_of (P:=l.prog) (w:=w) (mg:=mg) (base:=base) F27z ⟨n_isinstance,n_int,si,ii⟩
 have g23z:=ok_names_of_row (P:=l.prog) (w:=w) (mg:=mg) (base:=base) F23z ⟨n_tuple,n_sorted,n_set,m27z,A3 X G en,kn⟩ F27z b27z g27z
 have g24z:=ok_names_of_rows (P:=l.prog) (w:=w) (mg:=mg) (base:=base) F24z ⟨m23z⟩ F23z b23z g23z
 have g26z:=ok_one_place_more (P:=l.prog) (w:=w) (mg:=mg) (base:=base) F26z ⟨n_range⟩
 have g29z:=ok_init (P:=l.prog) (w:=w) (mg:=mg) (base:=base) F29z rc
 have g13z:=ok_all_of (P:=l.prog) (w:=w) (mg:=mg) (base:=base) F13z ⟨n_range,rc,m26z⟩ F26z b26z g26z
 have g25z:=ok_number_of (P:=l.prog) (w:=w) (mg:=mg) (base:=base) F25z rc
 have g30z:=ok_numbers_within (P:=l.prog) (w:=w) (mg:=mg) (base:=base) F30z ⟨n_len,rc,cls,d_all_of,d_number_of⟩ b13z g13z b25z g25z
 have g21z:=ok_ahead_truths (P:=l.prog) (w:=w) (mg:=mg) (base:=base) F21z
 have g22z:=ok_bound_truths (P:=l.prog) (w:=w) (mg:=mg) (base:=base) F22z ⟨n_range,n_any,n_all⟩
 have g8z:=ok_widened (P:=l.prog) (w:=w) (mg:=mg) (base:=base) F8z ⟨cls,d_numbers_within⟩ b30z g30z
 have g28z:=ok_row_truths (P:=l.prog) (w:=w) (mg:=mg) (base:=base) F28z ⟨n_len,n_zip,cls,rc,d_all_of,m21z,m22z,m8z⟩ F21z b21z g21z F22z b22z g22z F8z b8z g8z b13z g13z
 have g4z:=ok_holds (P:=l.prog) (w:=w) (mg:=mg) (base:=base) F4z ⟨n_len,n_zip,cls,rc,mkR,m_Choices,d_number_of,m24z,m28z⟩ b29z g29z F24z b24z g24z F28z b28z g28z b25z g25z
 have g7z:=ok__law_row_at (P:=l.prog) (w:=w) (mg:=mg) (base:=base) F7z ⟨m0z⟩ F0z b0z g0z
 have g18z:=ok__law_saying_rows (P:=l.prog) (w:=w) (mg:=mg) (base:=base) F18z ⟨n_range,n_len,m0z,m7z⟩ F0z b0z g0z F7z b7z g7z
 have g3z:=ok__law_names_of (P:=l.prog) (w:=w) (mg:=mg) (base:=base) F3z ⟨n_sorted,n_set⟩
 have g2z:=ok__law_frees (P:=l.prog) (w:=w) (mg:=mg) (base:=base) F2z ⟨m3z⟩ F3z b3z g3z
 have g10z:=ok__law_deep (P:=l.prog) (w:=w) (mg:=mg) (base:=base) F10z ⟨n_max⟩
 have g17z:=ok__law_rows_to (P:=l.prog) (w:=w) (mg:=mg) (base:=base) F17z ⟨n_len,m18z,m3z,m10z⟩ F18z b18z g18z F3z b3z g3z F10z b10z g10z
 have g19z:=ok__law_shut (P:=l.prog) (w:=w) (mg:=mg) (base:=base) F19z ⟨n_len,n_list,n_tuple,m0z,m2z⟩ F0z b0z g0z F2z b2z g2z
 have g1z:=jaz (P:=l.prog) (w:=w) (mg:=mg) (base:=base) F1z F9z b1z b9z ⟨n_tuple,m9z⟩ ⟨n_dict,n_range,n_len,m1z⟩ 61
 have g5z:=ok__law_due (P:=l.prog) (w:=w) (mg:=mg) (base:=base) F5z ⟨n_len,m1z,m2z⟩ F1z b1z g1z F2z b2z g2z
 have g11z:=ok__law_meets (P:=l.prog) (w:=w) (mg:=mg) (base:=base) F11z ⟨n_dict,n_isinstance,n_bool,bb,m4z,m5z⟩ F4z b4z g4z F5z b5z g5z
 have g14z:=ok__law_doubled (P:=l.prog) (w:=w) (mg:=mg) (base:=base) F14z ⟨n_list,n_tuple,n_len,m0z⟩ F0z b0z g0z
 have g12z:=ok__law_places (P:=l.prog) (w:=w) (mg:=mg) (base:=base) F12z ⟨n_len,n_dict,m0z⟩ F0z b0z g0z
 exact ok_law F_law ⟨n_tuple,n_range,n_len,n_dict,m6z,m15z,m16z,m0z,m17z,m19z,m14z,m2z,m20z,m12z,m11z,m4z,m5z⟩ F6z b6z g6z F15z b15z g15z F16z b16z g16z F0z b0z g0z F17z b17z g17z F19z b19z g19z F14z b14z g14z F2z b2z g2z F20z b20z g20z F12z b12z g12z F11z b11z g11z F4z b4z g4z F5z b5z g5z
theorem walk{l:PySem.W.OpenLaw}{q:Program}{loose:List Str}{XP:(Str->Option Value)->Heap->Prop}{YP:World->Heap->Prop}{d:DefRec}{K:Params->PySem.W.Frag}(hn:l.most=some 63)(hdf:d.params.defaults=[])
  (hY:∀(w:World)(h:Heap),YP w h->(K w.params).In h)
  (F:∀(w:World)(mg:Str->Option Value)(fa:Addr)(h:Heap),(K w.params).In h->h.Ns mainGlobals mg->mg d.name=some (.ref fa) ->
   ∃fd:FuncData,(∀(s:Shared)(u:Value),BindsTo s fd ⟨[u],[]⟩ [("_law_script",u)])/\∀base:Heap,(K w.params).In base->base.Ns mainGlobals mg->FnOk l.prog w (K w.params) mg base CX0 126 fa fd ["_law_script"] (jhz (K w.params))) :
  PySem.W.WalkO q loose XP YP l.row.toRowW d [] (λf vs=>PySem.call f vs) :=
 L2.walk_of (n:=63) (k:=126) (x:="_law_script") (CX:=λ_=>CX0) (sp:=λw=>jhz (K w.params)) hn (by decide) hdf ⟨rfl,by decide,by decide,rfl⟩ hY F (λ_ _ a ns hl _ hS=>⟨a,ns,rfl,hS,hl,λ_=>rfl⟩) λ_ _ _ _ _ z=>z
end My
theorem PySem.W.Fast.tw9997010373826389370:True:=trivial
theorem PySem.W.Fast.tw13809851670560370306:True:=trivial
theorem PySem.W.Fast.tw12222154494780574047:True:=trivial
theorem PySem.W.Fast.tw9973916582179286231:True:=trivial
theorem PySem.W.Fast.tw13097321287859204217:True:=trivial
theorem PySem.W.Fast.tw5769959403560841409:True:=trivial
theorem PySem.W.Fast.tw6559028386159779235:True:=trivial
theorem PySem.W.Fast.tw13744147644600726627:True:=trivial
theorem PySem.W.Fast.tw5335970113637368097:True:=trivial
theorem PySem.W.Fast.tw11918819499388266269:True:=trivial
theorem PySem.W.Fast.tw7138412659052498212:True:=trivial
theorem PySem.W.Fast.tw13616037433745084815:True:=trivial
theorem PySem.W.Fast.tw14824004472099264891:True:=trivial
theorem PySem.W.Fast.tw3098365967109128424:True:=trivial
theorem PySem.W.Fast.tw18336172627731663354:True:=trivial
theorem PySem.W.Fast.tw9490667457741772296:True:=trivial
theorem PySem.W.Fast.tw10688631555992661267:True:=trivial
theorem PySem.W.Fast.tw9351768917957231449:True:=trivial
theorem PySem.W.Fast.tw13449740935128225699:True:=trivial
theorem PySem.W.Fast.tw9746579930512735788:True:=trivial
theorem PySem.W.Fast.tw8859580163853427619:True:=trivial
theorem PySem.W.Fast.tw4165419559192320510:True:=trivial
theorem PySem.W.Fast.tw2467042468746808559:True:=trivial
theorem PySem.W.Fast.tw10444976062728459309:True:=trivial
theorem PySem.W.Fast.tw844737461301212984:True:=trivial
theorem PySem.W.Fast.tw2981440376011027482:True:=trivial
theorem PySem.W.Fast.tw9369482411363472666:True:=trivial
theorem PySem.W.Fast.tw14318284667550871000:True:=trivial
theorem PySem.W.Fast.tw15570774830606542351:True:=trivial
theorem PySem.W.Fast.tw9353876359552701388:True:=trivial
theorem PySem.W.Fast.tw8092222143014966884:True:=trivial
theorem PySem.W.Fast.tw14156304619237962281:True:=trivial
theorem PySem.W.Fast.tw18004836750281123263:True:=trivial
theorem PySem.W.Fast.tw13641899951614323581:True:=trivial
theorem PySem.W.Fast.tw10320239910944744304:True:=trivial
theorem PySem.W.Fast.tw5117868044010579743:True:=trivial
theorem PySem.W.Fast.tw5706764056208259593:True:=trivial
theorem PySem.W.Fast.tw2706456042390681006:True:=trivial
theorem PySem.W.Fast.tw9764999642544840448:True:=trivial
theorem PySem.W.Fast.tw6511803820924200247:True:=trivial
theorem PySem.W.Fast.tw6769256552501058102:True:=trivial
theorem PySem.W.Fast.tw9927645357724555680:True:=trivial
theorem PySem.W.Fast.tw15124176071781045832:True:=trivial
theorem PySem.W.Fast.tw5564902949176104460:True:=trivial
theorem PySem.W.Fast.tw13075917704988532239:True:=trivial
theorem PySem.W.Fast.tw9298230863521285118:True:=trivial
theorem PySem.W.Fast.tw2125525713383544804:True:=trivial
theorem PySem.W.Fast.tw13219359613847096340:True:=trivial
theorem PySem.W.Fast.tw4083692583377101714:True:=trivial
theorem PySem.W.Fast.tw8083278061529632356:True:=trivial
theorem PySem.W.Fast.tw3483571302934495373:True:=trivial
theorem PySem.W.Fast.tw11520942106408176827:True:=trivial
theorem PySem.W.Fast.tw1525797460650060246:True:=trivial
theorem PySem.W.Fast.tw11808045571814498575:True:=trivial
theorem PySem.W.Fast.tw12283766193270722546:True:=trivial
theorem PySem.W.Fast.tw4939733195656069190:True:=trivial
theorem PySem.W.Fast.tw18361384013263796559:True:=trivial
theorem PySem.W.Fast.tw16742752465787944660:True:=trivial
theorem PySem.W.Fast.tw17188675427770841486:True:=trivial
theorem PySem.W.Fast.tw270160368712156962:True:=trivial
open PySem PySem.W PyProof.Rows
set_option maxRecDepth 100000 in
set_option maxHeartbeats 0 in
theorem PySem.Challenge.cw_calmword_k34_holds_holds : PySem.Challenge.rw_calmword_k34_holds.Holds := by
 w_on;o_law;k_head;(case hw=>w_witness2)
 k_fill
 refine My.walk (l:=PySem.Challenge.rw_calmword_k34_holds) rfl rfl (λw h Y=>PySem.W.kIn_of Y) ?F
 case F =>
  intro w mg fa h KX G hmg
  refine' My.all_mk KX G hmg ?a1 ?l1 ?c1 ?k1 ?a2 ?l2 ?c2 ?k2 ?a3 ?l3 ?c3 ?k3 ?a4 ?l4 ?c4 ?k4 ?a5 ?l5 ?c5 ?k5 ?a6 ?l6 ?c6 ?k6 ?a7 ?l7 ?c7 ?k7 ?a8 ?l8 ?c8 ?k8 ?a9 ?l9 ?c9 ?k9 ?a10 ?l10 ?c10 ?k10 ?a11 ?l11 ?c11 ?k11 ?a12 ?l12 ?c12 ?k12 ?a13 ?l13 ?c13 ?k13 ?a14 ?l14 ?c14 ?k14 ?a15 ?l15 ?c15 ?k15 ?a16 ?l16 ?c16 ?k16 ?a17 ?l17 ?c17 ?k17 ?a18 ?l18 ?c18 ?k18 ?a19 ?l19 ?c19 ?k19 ?a20 ?l20 ?c20 ?k20 ?a21 ?l21 ?c21 ?k21 ?a22 ?l22 ?c22 ?k22 ?a23 ?l23 ?c23 ?k23 ?a24 ?l24 ?c24 ?k24 ?a25 ?l25 ?c25 ?k25 ?a26 ?l26 ?c26 ?k26 ?a27 ?l27 ?c27 ?k27 ?a28 ?l28 ?c28 ?k28 ?z_len ?z_int ?z_range ?z_list ?z_tuple ?z_isinstance ?z_bool ?z_sorted ?z_set ?z_zip ?z_any ?z_all ?z_dict ?z_max ?aC ?Cpg ?Chd ?Cpo ?Csa ?Cmk ?Ckp ?Nmany ?Nknown ?fm0 ?lm0 ?cm0 ?km0 ?im0 ?fm1 ?lm1 ?cm1 ?km1 ?im1 ?fm2 ?lm2 ?cm2 ?km2 ?im2 ?fm3 ?lm3 ?cm3 ?km3 ?im3 ?en ?ln ?vn
  (case a1=>k_is)
  (case l1=>k_is)
  (case c1=>k_is)
  (case k1=>k_is)
  (case a2=>k_is)
  (case l2=>k_is)
  (case c2=>k_is)
  (case k2=>k_is)
  (case a3=>k_is)
  (case l3=>k_is)
  (case c3=>k_is)
  (case k3=>k_is)
  (case a4=>k_is)
  (case l4=>k_is)
  (case c4=>k_is)
  (case k4=>k_is)
  (case a5=>k_is)
  (case l5=>k_is)
  (case c5=>k_is)
  (case k5=>k_is)
  (case a6=>k_is)
  (case l6=>k_is)
  (case c6=>k_is)
  (case k6=>k_is)
  (case a7=>k_is)
  (case l7=>k_is)
  (case c7=>k_is)
  (case k7=>k_is)
  (case a8=>k_is)
  (case l8=>k_is)
  (case c8=>k_is)
  (case k8=>k_is)
  (case a9=>k_is)
  (case l9=>k_is)
  (case c9=>k_is)
  (case k9=>k_is)
  (case a10=>k_is)
  (case l10=>k_is)
  (case c10=>k_is)
  (case k10=>k_is)
  (case a11=>k_is)
  (case l11=>k_is)
  (case c11=>k_is)
  (case k11=>k_is)
  (case a12=>k_is)
  (case l12=>k_is)
  (case c12=>k_is)
  (case k12=>k_is)
  (case a13=>k_is)
  (case l13=>k_is)
  (case c13=>k_is)
  (case k13=>k_is)
  (case a14=>k_is)
  (case l14=>k_is)
  (case c14=>k_is)
  (case k14=>k_is)
  (case a15=>k_is)
  (case l15=>k_is)
  (case c15=>k_is)
  (case k15=>k_is)
  (case a16=>k_is)
  (case l16=>k_is)
  (case c16=>k_is)
  (case k16=>k_is)
  (case a17=>k_is)
  (case l17=>k_is)
  (case c17=>k_is)
  (case k17=>k_is)
  (case a18=>k_is)
  (case l18=>k_is)
  (case c18=>k_is)
  (case k18=>k_is)
  (case a19=>k_is)
  (case l19=>k_is)
  (case c19=>k_is)
  (case k19=>k_is)
  (case a20=>k_is)
  (case l20=>k_is)
  (case c20=>k_is)
  (case k20=>k_is)
  (case a21=>k_is)
  (case l21=>k_is)
  (case c21=>k_is)
  (case k21=>k_is)
  (case a22=>k_is)
  (case l22=>k_is)
  (case c22=>k_is)
  (case k22=>k_is)
  (case a23=>k_is)
  (case l23=>k_is)
  (case c23=>k_is)
  (case k23=>k_is)
  (case a24=>k_is)
  (case l24=>k_is)
  (case c24=>k_is)
  (case k24=>k_is)
  (case a25=>k_is)
  (case l25=>k_is)
  (case c25=>k_is)
  (case k25=>k_is)
  (case a26=>k_is)
  (case l26=>k_is)
  (case c26=>k_is)
  (case k26=>k_is)
  (case a27=>k_is)
  (case l27=>k_is)
  (case c27=>k_is)
  (case k27=>k_is)
  (case a28=>k_is)
  (case l28=>k_is)
  (case c28=>k_is)
  (case k28=>k_is)
  (case z_len=>k_is)
  (case z_int=>k_is)
  (case z_range=>k_is)
  (case z_list=>k_is)
  (case z_tuple=>k_is)
  (case z_isinstance=>k_is)
  (case z_bool=>k_is)
  (case z_sorted=>k_is)
  (case z_set=>k_is)
  (case z_zip=>k_is)
  (case z_any=>k_is)
  (case z_all=>k_is)
  (case z_dict=>k_is)
  (case z_max=>k_is)
  (case aC=>k_is)
  (case Cpg=>first|k_is|kernel_rfl)
  (case Chd=>first|k_is|kernel_rfl)
  (case Cpo=>first|k_is|kernel_rfl)
  (case Csa=>first|k_is|kernel_rfl)
  (case Cmk=>first|k_is|kernel_rfl)
  (case Ckp=>first|k_is|kernel_rfl)
  (case Nmany=>first|k_is|kernel_rfl)
  (case Nknown=>first|k_is|kernel_rfl)
  (case fm0=>first|k_is|kernel_rfl)
  (case lm0=>k_is)
  (case cm0=>first|k_is|kernel_rfl)
  (case km0=>first|k_is|kernel_rfl)
  (case im0=>first|k_is|kernel_rfl)
  (case fm1=>first|k_is|kernel_rfl)
  (case lm1=>k_is)
  (case cm1=>first|k_is|kernel_rfl)
  (case km1=>first|k_is|kernel_rfl)
  (case im1=>first|k_is|kernel_rfl)
  (case fm2=>first|k_is|kernel_rfl)
  (case lm2=>k_is)
  (case cm2=>first|k_is|kernel_rfl)
  (case km2=>first|k_is|kernel_rfl)
  (case im2=>first|k_is|kernel_rfl)
  (case fm3=>first|k_is|kernel_rfl)
  (case lm3=>k_is)
  (case cm3=>first|k_is|kernel_rfl)
  (case km3=>first|k_is|kernel_rfl)
  (case im3=>first|k_is|kernel_rfl)
  (case en=>k_is)
  (case ln=>k_is)
  (case vn=>exact .cons ⟨_,rfl⟩ (.cons ⟨_,rfl⟩ .nil))