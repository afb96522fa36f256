import PyProof.Rows.All
import Wide.All
import OpenK.AllK
import Wide.FinOn
import Lean
import PyProof.EqAt
import PyProof.EqKinds
import PyProof.TupleCall
import PySem.Challenge.RW_calmword_k09_whole_two_machines_held
set_option Elab.async false
set_option linter.all false
set_option maxRecDepth 100000
set_option maxHeartbeats 4000000
local macro_rules
 | `(tactic| ac_rfl)=>`(tactic| first|exact Or.inl rfl|exact Or.inr rfl)
 | `(tactic| omega)=>`(tactic| first|lia|omega (config:={}))
abbrev Aa:=@List.length_map
abbrev Ab:=@List.getElem?_eq_some_iff
abbrev Ac:=@PySem.wpAny_bind
abbrev Ad:=@PySem.Heap.get?_push_of_some
abbrev Ae:=@List.length_append
abbrev Af:=@Bool.false_eq_true
abbrev Ag:=@List.getD_eq_getElem?_getD
abbrev Ah:=@if_neg
abbrev Ai:=@List.mem_singleton
abbrev Aj:=@List.not_mem_nil
abbrev Ak:=@List.map_cons
abbrev Al:=@Nat.le_refl
abbrev Am:=@if_pos
abbrev Ao:=@decide_eq_true_eq
abbrev Ap:=@Option.some.injEq
abbrev Aq:=@List.append_nil
abbrev Ar:=@PyProof.Rows.wpS_bind
abbrev At:=@List.cons.injEq
abbrev Au:=@List.map_nil
abbrev Av:=@PyProof.Rows.wpS_pure
abbrev Aw:=@exists_eq_left'
abbrev Ax:=@exists_and_left
abbrev Ay:=@List.mem_of_getElem?
abbrev Az:=@Bool.not_false
abbrev A0:=@List.mem_append
abbrev A1:=@List.getElem?_append_left
abbrev A2:=@List.mem_append_right
abbrev A3:=@exists_eq_left
abbrev A4:=@Bool.not_true
abbrev A5:=@PySem.wpAny_pure
abbrev A6:=@PySem.Heap.lt_size
abbrev A7:=@Option.some.inj
abbrev A8:=@List.append_assoc
abbrev A9:=@List.getElem?_map
abbrev Ia:=@List.size_toArray
abbrev Ib:=@List.getElem?_append_right
abbrev Ic:=@List.getElem?_eq_getElem
abbrev Ie:=@List.pairwise_append
abbrev Ig:=@Nat.lt_of_lt_of_le
abbrev Ih:=@if_false
abbrev Ii:=@and_true
abbrev Ij:=@List.mem_map
abbrev Ik:=@if_true
abbrev Il:=@List.mem_cons
abbrev Im:=@List.mem_append_left
abbrev Io:=@Nat.le_trans
abbrev Ip:=@Nat.ne_of_lt
abbrev Iq:=@PySem.W.mg_of
abbrev Ir:=@PySem.Heap.get?_push_size
abbrev Is:=@true_and
abbrev Iu:=@PySem.F.slot_list_append
abbrev Iv:=@PySem.F.type_list_append
abbrev Iw:=@PySem.sizeLine_eq
abbrev Ix:=@Bool.false_ne_true
abbrev Iy:=@List.take_of_length_le
abbrev Iz:=@List.take_append_of_le_length
abbrev I0:=@List.map_append
abbrev Oa:=@List.getElem?_of_mem
abbrev Ob:=@List.getElem?_toArray
abbrev Oc:=@Array.toList_append
abbrev Od:=@PySem.PassesOwn.never
abbrev Oe:=@List.mem_reverse
abbrev Of:=@List.length_range
abbrev Og:=@PySem.Heap.get?_update_other
abbrev Oh:=@Nat.succ_ne_zero
abbrev Oi:=@List.length_take
abbrev Oj:=@Nat.succ.inj
abbrev Ol:=@PySem.wpAny_mono
abbrev Om:=@List.map_congr_left
abbrev On:=@PySem.wpAny_loadPart_at
abbrev Oo:=@PyProof.Rows.slot_tuple_getitem
abbrev Op:=@List.length_eq_zero_iff
abbrev Oq:=@List.map_map
abbrev Os:=@PySem.W.mg_none_of
abbrev Ot:=@PySem.mem_of_lookup
abbrev Ou:=@PySem.Paired.length
abbrev Ow:=@List.mem_range
abbrev Ox:=@decide_eq_false
abbrev Oy:=@List.mem_cons_of_mem
abbrev Oz:=@List.mem_of_mem_drop
abbrev O0:=@List.reverse_perm
abbrev O1:=@Array.getElem?_toList
abbrev O2:=@List.getElem?_take_of_lt
abbrev O3:=@Ne.symm
abbrev O4:=@Array.toList_push
abbrev O5:=@List.pairwise_map
abbrev O6:=@PySem.wpAny_execs_nil
abbrev O7:=@Iff.rfl
abbrev O8:=@Nat.zero_le
abbrev O9:=@PySem.wpAny_holding
abbrev Ua:=@List.length_drop
abbrev Ub:=@List.mem_cons_self
abbrev Uc:=@PySem.wpAny_Call_Name_kw
abbrev Ud:=@List.take_append_drop
abbrev Ue:=@List.getElem?_drop
abbrev Uf:=@List.eq_nil_or_concat
abbrev Ug:=@List.concat_eq_append
abbrev Uh:=@congrArg
abbrev Ui:=@List.mem_of_mem_take
abbrev Uj:=@PySem.wpAny_newObj_type
abbrev Uk:=@Bool.eq_false_iff
abbrev Ul:=@Bool.and_eq_true
abbrev Um:=@PyProof.Rows.wpS_forRange
abbrev Uo:=@PySem.wpAny_passesOwn
abbrev Up:=@List.nodup_cons
abbrev Uq:=@PySem.wpAny_standAt
abbrev Ur:=@Array.getElem?_eq_some_iff
abbrev Us:=@Array.getElem?_eq_getElem
abbrev Ut:=@PyProof.Rows.wpS_modify
abbrev Uu:=@PySem.wpAny_execs_cons
abbrev Uv:=@PyProof.Rows.wpS_mono
abbrev Uw:=@List.pairwise_of_forall_mem_list
abbrev Ux:=@List.take_length
abbrev Uy:=@PySem.wpAny_isSubtype_exc
abbrev Uz:=@Nat.lt_irrefl
abbrev U0:=@PySem.wpAny_loadPart'
abbrev U1:=@List.pairwise_cons
abbrev U2:=@List.drop_of_length_le
abbrev U3:=@PySem.wpAny_truthy_bool
abbrev U4:=@List.foldl_append
abbrev U5:=@Nat.le_of_lt
abbrev U6:=@PySem.Heap.get?_update_self
abbrev U7:=@Nat.mul_comm
abbrev U8:=@List.Perm.refl
abbrev U9:=@PyProof.Rows.callWith_type1
abbrev Wa:=@PySem.Heap.get?_none_of_le
abbrev Wb:=@beq_self_eq_true
abbrev Wc:=@Array.toList_extract
abbrev Wd:=@Array.toList_reverse
abbrev We:=@Nat.mul_le_mul_right
abbrev Wf:=@PySem.wpAny_field
abbrev Wg:=@Prod.mk.inj
abbrev Wh:=@List.flatten_append
abbrev Wi:=@List.length_set
abbrev Wj:=@List.range_succ
abbrev Wl:=@List.drop_eq_getElem_cons
abbrev Wm:=@List.pairwise_iff_getElem
abbrev Wn:=@Decidable.byContradiction
abbrev Wo:=@Nat.ne_of_gt
abbrev Wp:=@PySem.F.args_tuple_add_2
abbrev Wq:=@PySem.wpAny_comprehension_free
abbrev Wr:=@PySem.wpAny_rule
abbrev Ws:=@PyProof.Rows.wpS_get
abbrev Wt:=@PySem.F.entry_tuple_add
abbrev Wu:=@PySem.Value.isInt_shape
abbrev Wv:=@List.getElem?_set
abbrev Ww:=@List.take_add_one
abbrev Wx:=@List.nodup_append
abbrev Wy:=@PySem.F.slot_tuple_add
abbrev Wz:=@List.map_id
abbrev W3:=@or_false
abbrev W4:=@List.pairwise_reverse
abbrev W5:=@List.mem_filter
abbrev W6:=@List.getElem?_set_ne
abbrev W7:=@Bool.eq_iff_iff
abbrev W8:=@PySem.codeAny_mono
abbrev W9:=@List.of_mem_zip
abbrev Ya:=@Nat.succ_mul
abbrev Yb:=@Nat.lt_trans
abbrev Yc:=@PySem.wpAny_newFunctionEnv
abbrev Yd:=@Nat.not_lt_zero
abbrev Ye:=@PySem.W.callWith_K
abbrev Yf:=@PySem.tupleKind_room_in1
abbrev Yg:=@List.contains_cons
abbrev Yh:=@Int.emod_lt_of_pos
namespace L2
open PySem PySem.Spec PyProof.Rows
abbrev Key:=Sum Int Str
def je8:Key->Value->Bool
 |.inl k,v=>Value.isInt k v
 |.inr x,v=>Value.isStrOf x v
def keyH(w:World):Key->Int
 |.inl k=>hashInt k
 |.inr x=>hashStr w x
theorem jd6:∀{k:Key}{v:Value},je8 k v=true->(∃i t,k=Sum.inl i/\v=Value.int i t)\/(∃x t,k=Sum.inr x/\v=Value.str x t)
 |.inl i,v,h=>by
  obtain⟨t,e⟩:=Wu (k:=i) (v:=v) h
  exact .inl ⟨i,t,rfl,e⟩
 |.inr x,v,h=>by
  obtain⟨t,e⟩:=Value.isStrOf_shape (x:=x) (v:=v) h
  exact .inr ⟨x,t,rfl,e⟩
theorem jlp(i:Int)(t:Tok):je8 (.inl i) (.int i t)=true:=by simp[je8,Value.isInt]
theorem jlq(x:Str)(t:Tok):je8 (.inr x) (.str x t)=true:=by simp[je8,Value.isStrOf]
theorem joh(a b:Int):decide ((Sum.inl a:Key)=Sum.inl b)=(a == b):=by
 by_cases e:a=b
 ·subst e;simp
 ·have h:¬(Sum.inl a:Key)=Sum.inl b:=λq=>e (Sum.inl.inj q)
  rw[Ox h]
  exact(beq_eq_false_iff_ne.mpr e).symm
theorem jok(a b:Str):decide ((Sum.inr a:Key)=Sum.inr b)=decide (a=b):=by
 by_cases e:a=b
 ·subst e;simp
 ·have h:¬(Sum.inr a:Key)=Sum.inr b:=λq=>e (Sum.inr.inj q)
  rw[Ox h,Ox e]
theorem joi(a:Int)(b:Str):decide ((Sum.inl a:Key)=Sum.inr b)=false:=Ox (λq=>nomatch q)
theorem joj(a:Str)(b:Int):decide ((Sum.inr a:Key)=Sum.inl b)=false:=Ox (λq=>nomatch q)
def jd0(prog:Program)(w:World):PySem.KeyKind prog w Key where
 is:=je8
 hash:=keyH w
 inj:=λv a b ha hb=>by
  rcases jd6 ha with⟨i,t,rfl,rfl⟩|⟨x,t,rfl,rfl⟩
  ·rcases jd6 hb with⟨j,u,rfl,e⟩|⟨y,u,rfl,e⟩
   ·injection e with e1 _;rw[e1]
   ·exact nomatch e
  ·rcases jd6 hb with⟨j,u,rfl,e⟩|⟨y,u,rfl,e⟩
   ·exact nomatch e
   ·injection e with e1 _;rw[e1]
 byValue:=λk v h=>by
  rcases jd6 h with⟨i,t,rfl,rfl⟩|⟨x,t,rfl,rfl⟩ <;> rfl
 pyHash:=λhv h=>by
  rcases jd6 hv with⟨i,t,rfl,rfl⟩|⟨x,t,rfl,rfl⟩
  ·exact wpAny_pyHash_int h
  ·exact wpAny_pyHash_str h
 eqBool:=λhu hv h=>by
  rcases jd6 hu with⟨i,t,rfl,rfl⟩|⟨x,t,rfl,rfl⟩
  ·rcases jd6 hv with⟨j,u,rfl,rfl⟩|⟨y,u,rfl,rfl⟩
   ·rw[joh]at h;exact wpAny_eqBool_int h
   ·rw[joi]at h;exact SeqAt.EqAt.int_str i t y u _ _ _ _ h
  ·rcases jd6 hv with⟨j,u,rfl,rfl⟩|⟨y,u,rfl,rfl⟩
   ·rw[joj]at h;exact SeqAt.EqAt.str_int x t j u _ _ _ _ h
   ·rw[jok]at h;exact wpAny_eqBool_str h
 «strs»:=λk x t v h=>by
  rcases jd6 h with⟨i,u,rfl,e⟩|⟨y,u,rfl,e⟩
  ·exact nomatch e
  ·injection e with e1 _
   subst e1
   cases v <;> rfl
theorem jju(prog:Program)(w:World)(i:Int)(t:Tok):(jd0 prog w).is (.inl i) (.int i t)=true:=jlp i t
theorem jjv(prog:Program)(w:World)(x:Str)(t:Tok):(jd0 prog w).is (.inr x) (.str x t)=true:=jlq x t
inductive V where
 |non|bl (b:Bool)|int (i:Int)|str (x:Str)|byt (b:Array UInt8)|flt (b:UInt64)|ref (a:Addr)|ty (n:String)
 deriving DecidableEq
def RelV:V->Value->Prop
 |.non,u=>u=Value.none
 |.bl b,u=>u=Value.bool b
 |.int i,u=>∃t,u=Value.int i t
 |.str x,u=>∃t,u=Value.str x t
 |.byt b,u=>∃t,u=Value.bytes b t
 |.flt b,u=>∃t,u=Value.float b t
 |.ref a,u=>u=Value.ref a
 |.ty n,u=>u=Value.type n
abbrev Vals:List V->List Value->Prop:=Paired RelV
theorem Vals.length{xs:List V}{us:List Value}(r:Vals xs us):xs.length=us.length:=Ou r
theorem Vals.get:∀{xs:List V}{us:List Value}{i:Nat}{x:V},Vals xs us->xs[i]?=some x->∃u,us[i]?=some u/\RelV x u
 |_,_,_,_,.nil,e=>by simp at e
 |_,_,0,_,.cons r _,e=>by simp at e;subst e;exact⟨_,rfl,r⟩
 |_,_,i+1,x,.cons _ t,e=>by
  obtain⟨u,h1,h2⟩:=Vals.get (i:=i) (x:=x) t (by simpa using e)
  exact⟨u,by simpa using h1,h2⟩
theorem Vals.set{x:V}{u:Value}(r:RelV x u):∀{xs:List V}{us:List Value}(i:Nat),Vals xs us->Vals (xs.set i x) (us.set i u)
 |_,_,_,.nil=>.nil
 |_,_,0,.cons _ t=>.cons r t
 |_,_,i+1,.cons q t=>.cons q (Vals.set r i t)
theorem Vals.append:∀{xs ys:List V}{us ws:List Value},Vals xs us->Vals ys ws->Vals (xs++ys) (us++ws)
 |_,_,_,_,.nil,s=>s
 |_,_,_,_,.cons r t,s=>.cons r (Vals.append t s)
theorem Vals.take:∀{xs:List V}{us:List Value}(n:Nat),Vals xs us->Vals (xs.take n) (us.take n)
 |_,_,0,_=>.nil
 |_,_,_+1,.nil=>.nil
 |_,_,n+1,.cons r t=>.cons r (Vals.take n t)
theorem Vals.drop:∀{xs:List V}{us:List Value}(n:Nat),Vals xs us->Vals (xs.drop n) (us.drop n)
 |_,_,0,r=>r
 |_,_,_+1,.nil=>.nil
 |_,_,n+1,.cons _ t=>Vals.drop n t
def RelO:Option V->Option Value->Prop
 |some v,some u=>RelV v u
 |none,none=>True
 |_,_=>False
def KV{κ:Type}:List (κ×V)->List (κ×Value)->Prop:=Paired fun(p:κ×V) (q:κ×Value)=>p.1=q.1/\RelV p.2 q.2
def kV:Key->V
 |.inl i=>.int i
 |.inr x=>.str x
inductive HO where
  |lst (xs:List V)
  |tup (xs:List V)
  |dK (kvs:List (Key×V))|dT (kvs:List (List Key×V))
  |set (S:Int->Bool) (n:Nat)
  |ins (C dx:Addr) (fs:List (Str×V))
  |own (x:Addr)
  |xd (fs:List (Str×V))
  |met (f x:Addr)
  |rng (lo hi:Int)
  |frz (o:Obj) (u:HO)
  |tbl (ps:Array Value)
  |ext (φ:Heap->Prop)
abbrev Hp:=Addr->Option HO
def upd(H:Hp)(a:Addr)(o:HO):Hp:=λb=>if b=a then some o else H b
theorem jb{H:Hp}{a:Addr}{o:HO}:upd H a o a=some o:=by unfold upd;rw[Am rfl]
theorem jd{H:Hp}{a b:Addr}{o:HO}(h:b≠a):upd H a o b=H b:=by unfold upd;rw[Ah h]
theorem jct{H:Hp}{a:Addr}{o u:HO}:upd (upd H a o) a u=upd H a u:=by
 funext b;unfold upd;split <;> rfl
theorem jkx{H:Hp}{a b:Addr}{o u:HO}(h:H a=some o)(h':H b=some u)(d:o≠u):a≠b:=by
 intro e;subst e;rw[h]at h';exact d (A7 h')
theorem jf{H:Hp}{a b:Addr}{o:HO}(h:H a=some o)(h':H b=none):a≠b:=by
 intro e;subst e;rw[h]at h';cases h'
section
variable(P:Program)(w:World)
def ObjOk(H:Hp)(h:Heap)(a:Addr):HO->Prop
 |.lst xs=>xs.length<=sizeLine/\∃(its:List Value)(n:Nat),Vals xs its/\h.get? a=some {cls:=.type "list",data:=.seq its.toArray n}
 |.tup xs=>xs.length<=sizeLine/\∃its:List Value,Vals xs its/\IsTup h a its.toArray
 |.dK kvs=>kvs.length<=sizeLine/\(a == sysModules)=false/\∃vs,KV kvs vs/\h.DictOf (jd0 P w) a vs
 |.dT kvs=>kvs.length<=sizeLine/\(a == sysModules)=false/\∃xs:List (List Key×Addr×Value),
   Paired (fun(p:List Key×V) (q:List Key×Addr×Value)=>p.1=q.1/\H q.2.1=some (.tup (p.1.map kV))/\RelV p.2 q.2.2) kvs xs /\
   ∃o es ep,h.get? a=some o/\o.ExactDict/\o.data=.dict es ep/\es.toList=xs.map (entryOfKey (tupleKind (jd0 P w)))/\(xs.map (·.1)).Nodup
 |.set S n=>h.SetOf (intKind P w) a S n
 |.ins C dx fs=>H dx=some (.own a)/\fs.length<=1000/\dx≠a/\h.get? a=some (PySem.W.instObj C dx) /\
   ∃mA,h.Ns1 dx mA/\(∀f,RelO (fs.lookup f) (mA f))/\PySem.Within mA (fs.map (·.1))
 |.own _=>∃o,h.get? a=some o
 |.xd fs=>∃mA,h.Ns1 a mA/\∀f,RelO (fs.lookup f) (mA f)
 |.rng lo hi=>∃t u v,h.get? a=some {cls:=.type "range",data:=.fields #[.int lo t,.int hi u,.int 1 v]}
 |.frz o u=>h.get? a=some o/\ObjOk H h a u
 |.tbl ps=>h.get? a=some {cls:=.none,data:=.fields ps}
 |.met f x=>h.get? a=some (PySem.W.methodObj (.ref f) (.ref x))
 |.ext φ=>φ h/\(∃o,h.get? a=some o)/\∀h1 h2:Heap,φ h1->(∀o,h1.get? a=some o->h2.get? a=some o)->φ h2
def HOk(H:Hp)(h:Heap):Prop:=∀a o,H a=some o->ObjOk P w H h a o
end
section
variable{P:Program}{w:World}{H H':Hp}{h h':Heap}{a:Addr}{o:HO}
theorem ObjOk.lt(x:ObjOk P w H h a o):a<h.objs.size:=by
 cases o with
 |lst xs=>obtain⟨_,_,_,_,e⟩:=x;exact A6 e
 |tup xs=>obtain⟨_,_,_,p⟩:=x;exact p.lt
 |dK kvs=>obtain⟨_,_,_,_,o,_,_,e,_⟩:=x;exact A6 e
 |dT kvs=>obtain⟨_,_,_,_,o,_,_,e,_⟩:=x;exact A6 e
 |set S n=>obtain⟨o,_,_,_,e,_⟩:=x;exact A6 e
 |ins C dx fs=>obtain⟨_,_,_,e,_⟩:=x;exact A6 e
 |own y=>obtain⟨_,e⟩:=x;exact A6 e
 |xd fs=>obtain⟨_,⟨_,_,_,e,_⟩,_⟩:=x;exact A6 e
 |rng lo hi=>obtain⟨_,_,_,e⟩:=x;exact A6 e
 |frz ob u=>obtain⟨e,_⟩:=x;exact A6 e
 |tbl ps=>exact A6 (show h.get? a=some _ from x)
 |met f y=>exact A6 (show h.get? a=some _ from x)
 |ext φ=>obtain⟨_,⟨_,e⟩,_⟩:=x;exact A6 e
theorem Paired.mapP{α β:Type}{F G:α->β->Prop}:∀{l₁:List α}{l₂:List β},Paired F l₁ l₂->(∀a b,F a b->G a b)->Paired G l₁ l₂
 |_,_,.nil,_=>.nil
 |_,_,.cons r t,f=>.cons (f _ _ r) (Paired.mapP t f)
theorem ObjOk.stay(x:ObjOk P w H h a o)(k:∀b u,(b=a\/H b=some (.own a))->h.get? b=some u->h'.get? b=some u)
  (ho:∀b,H b=some (.own a)->H' b=some (.own a)) (ht:∀b xs,H b=some (.tup xs)->H' b=some (.tup xs)):ObjOk P w H' h' a o:=by
 induction o with
 |lst xs=>obtain⟨z,its,n,r,e⟩:=x;exact⟨z,its,n,r,k _ _ (.inl rfl) e⟩
 |tup xs=>obtain⟨z,its,r,ob,e,c⟩:=x;exact⟨z,its,r,ob,k _ _ (.inl rfl) e,c⟩
 |dK kvs=>obtain⟨z,y,vs,r,ob,es,ep,e,c⟩:=x;exact⟨z,y,vs,r,ob,es,ep,k _ _ (.inl rfl) e,c⟩
 |dT kvs =>
  obtain⟨z,y,xs,r,ob,es,ep,e,c⟩:=x
  exact⟨z,y,xs,Paired.mapP r λp q z=>⟨z.1,ht _ _ z.2.1,z.2.2⟩,ob,es,ep,k _ _ (.inl rfl) e,c⟩
 |set S n=>obtain⟨ob,es,ep,t,e,c⟩:=x;exact⟨ob,es,ep,t,k _ _ (.inl rfl) e,c⟩
 |ins C dx fs =>
  obtain⟨d,z,ne,e,mA,⟨od,es,ep,e2,c⟩,r⟩:=x
  exact⟨ho _ d,z,ne,k _ _ (.inl rfl) e,mA,⟨od,es,ep,k _ _ (.inr d) e2,c⟩,r⟩
 |own y=>obtain⟨ob,e⟩:=x;exact⟨ob,k _ _ (.inl rfl) e⟩
 |xd fs=>obtain⟨mA,⟨od,es,ep,e,c⟩,r⟩:=x;exact⟨mA,⟨od,es,ep,k _ _ (.inl rfl) e,c⟩,r⟩
 |rng lo hi=>obtain⟨t,u,v,e⟩:=x;exact⟨t,u,v,k _ _ (.inl rfl) e⟩
 |frz ob u ih=>obtain⟨e,q⟩:=x;exact⟨k _ _ (.inl rfl) e,ih q⟩
 |tbl ps =>
  have e:h.get? a=some {cls:=.none,data:=.fields ps}:=x
  show h'.get? a=some {cls:=.none,data:=.fields ps}
  exact k a _ (.inl rfl) e
 |met f y =>
  have e:h.get? a=some (PySem.W.methodObj (.ref f) (.ref y)):=x
  show h'.get? a=some (PySem.W.methodObj (.ref f) (.ref y))
  exact k a _ (.inl rfl) e
 |ext φ=>obtain⟨p,⟨o,e⟩,st⟩:=x;exact⟨st _ _ p λo q=>k _ _ (.inl rfl) q,⟨o,k _ _ (.inl rfl) e⟩,st⟩
theorem HOk.lt(x:HOk P w H h)(e:H a=some o):a<h.objs.size:=(x a o e).lt
theorem HOk.fresh(x:HOk P w H h)(e:h.objs.size<=a):H a=none:=by
 cases q:H a with
 |none=>rfl
 |some u=>exact absurd (Ig (x.lt q) e) (Uz _)
theorem HOk.kept(x:HOk P w H h)(k:∀b u,h.get? b=some u->h'.get? b=some u):HOk P w H h':=λa o e =>
 (x a o e).stay (λb u _ q=>k b u q) (λ_ q=>q) λ_ _ q=>q
theorem HOk.laid(x:HOk P w H h)(k:∀b u,h.get? b=some u->h'.get? b=some u)(hp:h.objs.size<=a)(new:ObjOk P w (upd H a o) h' a o):HOk P w (upd H a o) h':=λb u e=>by
 have hn:=x.fresh hp
 by_cases hb:b=a
 ·subst hb;rw[jb]at e;cases e;exact new
 ·rw[jd hb]at e
  exact(x b u e).stay (λc v _ q=>k c v q) (λc q=>by rw[jd (jf q hn)];exact q) λc xs q=>by rw[jd (jf q hn)];exact q
end
def Rd(H:Hp)(a:Addr)(u:HO):Prop:=H a=some u\/∃o,H a=some (.frz o u)
theorem Rd.ok{P:Program}{w:World}{H:Hp}{h:Heap}{a:Addr}{u:HO}(r:Rd H a u)(x:HOk P w H h):ObjOk P w H h a u:=by
 rcases r with r|⟨o,r⟩
 ·exact x a u r
 ·obtain⟨_,q⟩:=x a _ r
  exact q
def Mut:Option HO->Prop
 |some (.lst _)=>True
 |some (.dK _)=>True
 |some (.dT _)=>True
 |some (.set _ _)=>True
 |some (.ins _ _ _)=>True
 |some (.ext _)=>True
 |_=>False
section
variable{P:Program}{w:World}{H:Hp}{h h':Heap}{x e:Addr}{o':HO}
theorem HOk.write(ok:HOk P w H h)(mu:Mut (H x))(he:e=x\/H e=some (.own x))(k:∀b u,b≠e->h.get? b=some u->h'.get? b=some u)(heo:∃u,h'.get? e=some u)
  (new:ObjOk P w (upd H x o') h' x o'):HOk P w (upd H x o') h':=λb u q=>by
 have nown:∀c y,H c=some (.own y)->c≠x:=λc y r z=>by subst z;rw[r]at mu;exact mu
 have ntup:∀c xs,H c=some (.tup xs)->c≠x:=λc xs r z=>by subst z;rw[r]at mu;exact mu
 by_cases hb:b=x
 ·subst hb;rw[jb]at q;cases q;exact new
 ·rw[jd hb]at q
  by_cases hbe:b=e
  ·have q':H b=some (.own x):=by
    rcases he with z|z
    ·exact absurd (hbe.trans z) hb
    ·rw[hbe];exact z
   rw[q]at q';cases q'
   obtain⟨v,hv⟩:=heo
   exact⟨v,by rw[hbe];exact hv⟩
  ·refine(ok b u q).stay (λc v hc r=>k c v ?_ r) (λc r=>by rw[jd (nown c b r)];exact r) λc xs r=>by rw[jd (ntup c xs r)];exact r
   rcases hc with rfl|hc
   ·exact hbe
   ·rintro rfl
    rcases he with z|z
    ·exact nown c b hc z
    ·rw[hc]at z;cases z;exact hb rfl
end
structure Un(fs ex:List Addr)(H H':Hp)(h h':Heap):Prop where
 keep:∀b o,h.get? b=some o->H b=none->b∉fs->b∉ex->h'.get? b=some o
 slot:∀b o,h.get? b=some o->H b=none->b∈fs->b∉ex->∃sl,h'.get? b=some {o with slots:=sl}
 free:∀b o,h.get? b=some o->H b=none->b∉ex->H' b=none
 there:∀b o,h.get? b=some o->b∉ex->∃o',h'.get? b=some o'
 tups:∀b xs,H b=some (.tup xs)->H' b=some (.tup xs)
 frzs:∀b o u,H b=some (.frz o u)->H' b=some (.frz o u)
 tbls:∀b ps,H b=some (.tbl ps)->∃more,H' b=some (.tbl (ps++more))
section
variable{fs fs' ex ex':List Addr}{H H1 H2:Hp}{h h1 h2 h':Heap}{a x e:Addr}{o:HO}
theorem Un.any(u:Un fs ex H H1 h h1){b:Addr}{ob:Obj}(q:h.get? b=some ob)(n:H b=none)(hx:b∉ex):∃sl,h1.get? b=some {ob with slots:=sl}:=by
 by_cases hb:b∈fs
 ·exact u.slot b ob q n hb hx
 ·exact⟨ob.slots,u.keep b ob q n hb hx⟩
theorem Un.kept(k:∀b u,h.get? b=some u->h'.get? b=some u):Un fs ex H H h h' :=
 ⟨λb ob q _ _ _=>k b ob q,λb ob q _ _ _=>⟨ob.slots,k b ob q⟩,λ_ _ _ n _=>n,λb ob q _=>⟨ob,k b ob q⟩,λ_ _ q=>q,λ_ _ _ q=>q,λ_ ps q=>⟨#[],by rw[q];simp⟩⟩
theorem Un.refl:Un fs ex H H h h:=Un.kept λ_ _ q=>q
theorem Un.laid(k:∀b u,h.get? b=some u->h'.get? b=some u)(hp:h.objs.size<=a)(hn:H a=none):Un fs ex H (upd H a o) h h' where
 keep:=λb u q _ _ _=>k b u q
 slot:=λb u q _ _ _=>⟨u.slots,k b u q⟩
 free:=λb u q n _=>by rw[jd (Ip (Ig (A6 q) hp))];exact n
 there:=λb u q _=>⟨u,k b u q⟩
 tups:=λb xs q=>by rw[jd (jf q hn)];exact q
 frzs:=λb u xs q=>by rw[jd (jf q hn)];exact q
 tbls:=λb ps q=>⟨#[],by rw[jd (jf q hn),q];simp⟩
theorem Un.write(mu:Mut (H x))(he:e=x\/H e=some (.own x))(k:∀b u,b≠e->h.get? b=some u->h'.get? b=some u)(heo:∃u,h'.get? e=some u):Un fs ex H (upd H x o) h h':=by
 have hx:∀b,H b=none->b≠x:=λb n z=>by subst z;rw[n]at mu;exact mu
 have hb:∀b,H b=none->b≠e:=λb n z=>by
  subst z
  rcases he with r|r
  ·exact hx b n r
  ·rw[n]at r;cases r
 have hm:∀b u,H b=some u->¬Mut (some u)->b≠x:=λb u q nm z=>by subst z;rw[q]at mu;exact nm mu
 refine⟨λb u q n _ _=>k b u (hb b n) q,λb u q n _ _=>⟨u.slots,k b u (hb b n) q⟩,λb u q n _=>by rw[jd (hx b n)];exact n,λb u q _=>?_,
  λb xs q=>by rw[jd (hm b _ q λz=>z)];exact q,λb u xs q=>by rw[jd (hm b _ q λz=>z)];exact q,λb ps q=>⟨#[],by rw[jd (hm b _ q λz=>z),q];simp⟩⟩
 by_cases hbe:b=e
 ·subst hbe;exact heo
 ·exact⟨u,k b u hbe q⟩
end
def trk(h:Heap)(H:Hp):List Addr:=(List.range h.objs.size).filter λa=>(H a).isSome
def hidT(h:Heap)(H:Hp):Heap:=PySem.W.hideAll h (trk h H)
theorem jll(h:Heap)(H:Hp):(hidT h H).objs.size=h.objs.size:=PySem.W.hideAll_size _ _
theorem jmm{h:Heap}{H:Hp}{b:Addr}{o:Obj}(e:h.get? b=some o)(n:H b=none):(hidT h H).get? b=some o :=
 PySem.W.hideAll_get _ e λhm=>by
  have q:(H b).isSome=true:=(W5.mp hm).2
  rw[n]at q;simp at q
theorem jnv{h:Heap}{H:Hp}{b:Addr}{o:Obj}(e:(hidT h H).get? b=some o):h.get? b=some o/\H b=none:=by
 have e':h.get? b=some o:=PySem.W.of_hideAll (trk h H) e
 refine⟨e',?_⟩
 cases q:H b with
 |none=>rfl
 |some x =>
  have hm:b∈trk h H:=W5.mpr ⟨Ow.mpr (A6 e'),by simp[q]⟩
  have z:(hidT h H).get? b=none:=PySem.W.hideAll_none (trk h H) hm
  rw[z]at e;cases e
structure Mod(K:PySem.W.Frag)(mg:Str->Option Value)(base:Heap):Prop where
 kin:K.In base
 glob:base.Ns mainGlobals mg
 blt:∃mb,base.Ns builtinsNs mb/\∀x:Str,x≠"__name__"->mb x=bootBuiltins x
 nolimit:base.NoLimit
structure Cx where
 prog:Program
 w:World
 K:PySem.W.Frag
 mg:Str->Option Value
 base:Heap
 A:Around
 N:List Str
 s₀:Shared
 H₀:Hp
 env:Env
 outer:List Env
 stack:List Env
 ex:List Addr
 fn:Str->Bool
 calm:Bool
 pn:List (Addr×Obj)
 xe:Value->Shared->Prop
def frs(l:List Env):List Addr:=l.filterMap (·.frame)
abbrev Cx.fs(X:Cx):List Addr:=frs X.outer
def Vis(sc:Scope)(x:Str):Prop:=sc.names.lookup x=some .local\/sc.names.lookup x=some .cell\/sc.names.lookup x=some .free
def Loc(sc:Scope)(x:Str):Prop:=sc.names.lookup x=some .local\/sc.names.lookup x=some .cell
def Look(env:Env)(h:Heap)(m:Str->Option Value)(x:Str)(u:Value):Prop :=
 (env.kindOf x=some .local/\m x=some u)\/((env.kindOf x=some .cell\/env.kindOf x=some .free)/\∃c,env.cells.lookup x=some c/\h.IsCell c (some u))
structure Cx.Ok(X:Cx):Prop where
 mod:Mod X.K X.mg X.base
 kind:X.env.scope.kind=.function
 glob:X.env.globals=mainGlobals
 blt:X.env.builtins=builtinsNs
 above:X.s₀.heap.objs.size<=X.env.locals
 inj:∀x y c,X.env.cells.lookup x=some c->X.env.cells.lookup y=some c->x=y
 has:∀x,(X.env.kindOf x=some .cell\/X.env.kindOf x=some .free)->∃c,X.env.cells.lookup x=some c
 cab:∀x c,X.fn x=true->X.env.cells.lookup x=some c->X.s₀.heap.objs.size<=c
 hd:X.calm=true->X.A.handled=none
 frames:X.A.frames=some X.stack
 stk:X.stack=X.outer\/(X.stack=X.env::X.outer/\X.env.frame=some X.env.locals)
 exf:∀b∈X.ex,b≠X.env.locals/\∀x c,X.env.cells.lookup x=some c->c≠b
 bs:∀b o,X.base.get? b=some o->X.s₀.heap.get? b=some o/\X.H₀ b=none
 bsz:X.base.objs.size<=X.s₀.heap.objs.size
 noex:∀b o,X.base.get? b=some o->b∉X.ex
 exfs:∀b∈X.ex,b∉X.fs
 funs:X.s₀.heap.FunFrames X.base X.outer
 frf:∀b∈X.fs,X.H₀ b=none
structure Inv(X:Cx)(pins:List (Addr×Obj))(σ:List (Option V))(H:Hp)(s:Shared):Prop where
 ok:X.Ok
 os:s.os=X.s₀.os
 bare:AllBare s.gens
 base:Un X.fs X.ex X.H₀ H X.s₀.heap s.heap
 loc:∃m,s.heap.Ns X.env.locals m/\∀(i:Nat)(x:Str)(v:V),X.N[i]?=some x->σ[i]?=some (some v)->Vis X.env.scope x->∃u,RelV v u/\Look X.env s.heap m x u
 cell:∀x c,X.env.cells.lookup x=some c->∃v,s.heap.IsCell c v
 free:H X.env.locals=none
 freeC:∀x c,X.env.cells.lookup x=some c->H c=none
 pin:∀p∈X.pn++pins,s.heap.get? p.1=some p.2/\H p.1=none/\p.1≠X.env.locals/\p.1∉X.fs/\∀v,p.2.data≠.cell v
 hok:HOk X.prog X.w H s.heap
 len:σ.length=X.N.length
section
variable{X:Cx}{pins:List (Addr×Obj)}{σ:List (Option V)}{H H':Hp}{s:Shared}{h':Heap}
theorem Cx.Ok.nofr(ok:X.Ok){b:Addr}{o:Obj}(e:X.base.get? b=some o):b∉X.fs:=λhb=>by
 have:=(ok.funs.mem hb).1
 rw[e]at this;cases this
theorem Inv.bs(I:Inv X pins σ H s):∀b o,X.base.get? b=some o->s.heap.get? b=some o/\H b=none:=λb o e =>
 ⟨I.base.keep b o (I.ok.bs b o e).1 (I.ok.bs b o e).2 (I.ok.nofr e) (I.ok.noex b o e),I.base.free b o (I.ok.bs b o e).1 (I.ok.bs b o e).2 (I.ok.noex b o e)⟩
theorem Inv.bk(I:Inv X pins σ H s):∀b o,X.base.get? b=some o->s.heap.get? b=some o:=λb o e=>(I.bs b o e).1
theorem Inv.mod(I:Inv X pins σ H s):Mod X.K X.mg X.base:=I.ok.mod
theorem Inv.kIn(I:Inv X pins σ H s):X.K.In s.heap:=I.ok.mod.kin.keeps I.bk
theorem Inv.lt(I:Inv X pins σ H s):X.env.locals<s.heap.objs.size:=let⟨_,hn,_⟩:=I.loc;hn.lt
theorem Inv.sz(I:Inv X pins σ H s):X.s₀.heap.objs.size<=s.heap.objs.size:=Io I.ok.above (U5 I.lt)
theorem Inv.nofs(I:Inv X pins σ H s){a:Addr}(h:s.heap.objs.size<=a):a∉X.fs:=λhb=>by
 obtain⟨_,o,ho,_⟩:=I.ok.funs.mem hb
 exact absurd (Ig (A6 ho) (Io I.sz h)) (Uz _)
theorem Inv.cne(I:Inv X pins σ H s):∀x c,X.env.cells.lookup x=some c->c≠X.env.locals:=λx c e z=>by
 obtain⟨v,o,ho,hd⟩:=I.cell x c e
 obtain⟨m,⟨o',es,ep,ho',hd',_⟩,_⟩:=I.loc
 rw[z,ho']at ho;cases ho;rw[hd']at hd;cases hd
theorem Inv.funs(I:Inv X pins σ H s):s.heap.FunFrames X.base X.outer:=by
 have all:∀(l:List Env),(∀b∈frs l,b∈X.fs)->X.s₀.heap.FunFrames X.base l->s.heap.FunFrames X.base l:=by
  intro l
  induction l with
  |nil=>intro _ _;trivial
  |cons env r ih =>
   intro hs hl
   obtain⟨hk,⟨L,o,hf,hn,ho,hd⟩,hr⟩:=hl
   have hL:L∈X.fs:=hs L (by unfold frs;rw[List.filterMap_cons,hf];exact Ub)
   obtain⟨sl,e⟩:=I.base.slot L o ho (I.ok.frf L hL) hL λz=>I.ok.exfs L z hL
   exact⟨hk,⟨L,_,hf,hn,e,hd⟩,ih (λb hb=>hs b (by unfold frs;rw[List.filterMap_cons,hf];exact Oy _ hb)) hr⟩
 exact all X.outer (λ_ hb=>hb) I.ok.funs
theorem Inv.stack(I:Inv X pins σ H s):s.heap.FunFrames X.base X.stack:=by
 rcases I.ok.stk with e|⟨e,hf⟩
 ·rw[e];exact I.funs
 ·rw[e]
  obtain⟨m,hn,_⟩:=I.loc
  refine .cons (by rw[I.ok.kind];decide) hf hn ?_ I.funs
  exact Wa (Io I.ok.bsz I.ok.above)
theorem Inv.stkSub(I:Inv X pins σ H s):∀b∈frs X.stack,b∈X.env.locals::X.fs:=λb hb=>by
 rcases I.ok.stk with e|⟨e,hf⟩
 ·rw[e]at hb;exact Oy _ hb
 ·rw[e]at hb
  unfold frs at hb
  rw[List.filterMap_cons,hf]at hb
  exact hb
theorem Inv.stkFree(I:Inv X pins σ H s):∀b∈frs X.stack,H b=none:=λb hb=>by
 rcases Il.mp (I.stkSub b hb)with e|hb
 ·rw[e];exact I.free
 ·obtain⟨_,o,ho,_⟩:=I.ok.funs.mem hb
  exact I.base.free b o ho (I.ok.frf b hb) λz=>I.ok.exfs b z hb
theorem Inv.step{g':Array GenState}{t':Nat}{d':Drawn}{ch:List Addr}(I:Inv X pins σ H s)
  (hch:∀b∈ch,(b∈X.ex\/X.s₀.heap.objs.size<=b)/\b≠X.env.locals/\(∀x c,X.env.cells.lookup x=some c->c≠b)/\∀p∈X.pn++pins,p.1≠b)
  (keep:∀b o,b≠X.env.locals->b∉X.fs->b∉ch->s.heap.get? b=some o->H b=none->h'.get? b=some o)
  (slot:∀b o,b≠X.env.locals->b∈X.fs->b∉ch->s.heap.get? b=some o->H b=none->∃sl,h'.get? b=some {o with slots:=sl}) (free:∀b o,b∉ch->s.heap.get? b=some o->H b=none->H' b=none)
  (there:∀b o,b∉ch->s.heap.get? b=some o->∃o',h'.get? b=some o')
  (tups:∀b xs,H b=some (.tup xs)->H' b=some (.tup xs)) (frzs:∀b o u,H b=some (.frz o u)->H' b=some (.frz o u)) (tbls:∀b ps,H b=some (.tbl ps)->∃more,H' b=some (.tbl (ps++more)))
  (ns:∀m,s.heap.Ns X.env.locals m->h'.Ns X.env.locals m) (hok:HOk X.prog X.w H' h') (hg:AllBare g') :
  Inv X pins σ H' {s with heap:=h',gens:=g',drawn:=d',toks:=t'}:=by
 have neL:∀b o,X.s₀.heap.get? b=some o->b≠X.env.locals:=λb o e=>Ip (Ig (A6 e) I.ok.above)
 have neC:∀b o,X.s₀.heap.get? b=some o->b∉X.ex->b∉ch:=λb o e hx hb=>by
  rcases(hch b hb).1 with z|z
  ·exact hx z
  ·exact absurd (Ig (A6 e) z) (Uz _)
 have cellK:∀x c,X.env.cells.lookup x=some c->∀v,s.heap.IsCell c v->h'.IsCell c v:=λx c e v ⟨o,ho,hd⟩=>by
  have nch:c∉ch:=λz=>(hch c z).2.2.1 x c e rfl
  by_cases hc:c∈X.fs
  ·obtain⟨sl,q⟩:=slot c o (I.cne x c e) hc nch ho (I.freeC x c e)
   exact⟨_,q,hd⟩
  ·exact⟨o,keep c o (I.cne x c e) hc nch ho (I.freeC x c e),hd⟩
 refine⟨I.ok,I.os,hg,⟨λb o e n hb hx=>?_,λb o e n hb hx=>?_,λb o e n hx=>?_,λb o e hx=>?_,λb xs e=>tups b xs (I.base.tups b xs e),λb o xs e=>frzs b o xs (I.base.frzs b o xs e),λb ps e=>?_⟩,?_,λx c e=>?_,?_,λx c e=>?_,λp hp=>?_,hok,I.len⟩
 ·exact keep b o (neL b o e) hb (neC b o e hx) (I.base.keep b o e n hb hx) (I.base.free b o e n hx)
 ·obtain⟨sl,e1⟩:=I.base.slot b o e n hb hx
  obtain⟨sl',e2⟩:=slot b _ (neL b o e) hb (neC b o e hx) e1 (I.base.free b o e n hx)
  exact⟨sl',e2⟩
 ·obtain⟨o',e1⟩:=I.base.there b o e hx
  exact free b o' (neC b o e hx) e1 (I.base.free b o e n hx)
 ·obtain⟨o',e1⟩:=I.base.there b o e hx
  exact there b o' (neC b o e hx) e1
 ·obtain⟨m1,e1⟩:=I.base.tbls b ps e
  obtain⟨m2,e2⟩:=tbls b _ e1
  exact⟨m1++m2,by rw[e2,Array.append_assoc]⟩
 ·obtain⟨m,hn,hl⟩:=I.loc
  refine⟨m,ns m hn,λi x v e1 e2 e3=>?_⟩
  obtain⟨u,r,l⟩:=hl i x v e1 e2 e3
  refine⟨u,r,?_⟩
  rcases l with l|⟨k,c,e,z⟩
  ·exact .inl l
  ·exact .inr ⟨k,c,e,cellK x c e _ z⟩
 ·obtain⟨v,z⟩:=I.cell x c e
  exact⟨v,cellK x c e v z⟩
 ·obtain⟨m,⟨o,_,_,ho,_⟩,_⟩:=I.loc
  exact free _ o (λz=>(hch _ z).2.1 rfl) ho I.free
 ·obtain⟨v,o,ho,hd⟩:=I.cell x c e
  exact free c o (λz=>(hch c z).2.2.1 x c e rfl) ho (I.freeC x c e)
 ·obtain⟨e,n,ne,nf,d⟩:=I.pin p hp
  have nch:p.1∉ch:=λz=>(hch p.1 z).2.2.2 p hp rfl
  exact⟨keep p.1 p.2 ne nf nch e n,free p.1 p.2 nch e n,ne,nf,d⟩
theorem Inv.un{t':Nat}(I:Inv X pins σ H s)(u:Un X.fs [] H H' s.heap h')(hok:HOk X.prog X.w H' h'):Inv X pins σ H' {s with heap:=h',toks:=t'}:=by
 obtain⟨m,⟨o,es,ep,ho,r⟩,_⟩:=id I.loc
 obtain⟨sl,hL⟩:=u.any ho I.free (by simp)
 exact I.step (g':=s.gens) (d':=s.drawn) (ch:=[]) (λ_ z=>nomatch z) (λb o _ hb _ e n=>u.keep b o e n hb (by simp)) (λb o _ hb _ e n=>u.slot b o e n hb (by simp)) (λb o _ e n=>u.free b o e n (by simp)) (λb o _ e=>u.there b o e (by simp)) u.tups u.frzs u.tbls (λm' hm=>by
  obtain⟨o',es',ep',ho',r'⟩:=hm
  rw[ho]at ho';cases ho'
  exact⟨_,es',ep',hL,r'⟩) hok I.bare
theorem Inv.call{g':Array GenState}{t':Nat}{d':Drawn}{ch:List Addr}(I:Inv X pins σ H s)(u:Un (frs X.stack) ch H H' s.heap h')(hok:HOk X.prog X.w H' h')(hg:AllBare g')
  (hch:∀b∈ch,(b∈X.ex\/X.s₀.heap.objs.size<=b)/\b≠X.env.locals/\(∀x c,X.env.cells.lookup x=some c->c≠b)/\∀p∈X.pn++pins,p.1≠b) :
  Inv X pins σ H' {s with heap:=h',gens:=g',drawn:=d',toks:=t'}:=by
 obtain⟨m,⟨o,es,ep,ho,r⟩,_⟩:=id I.loc
 obtain⟨sl,hL⟩:=u.any ho I.free λz=>(hch _ z).2.1 rfl
 exact I.step (ch:=ch) hch (λb o hL hb hc e n=>u.keep b o e n (λz=>(Il.mp (I.stkSub b z)).elim hL hb) hc) (λb o _ _ hc e n=>u.any e n hc) (λb o hc e n=>u.free b o e n hc) (λb o hc e=>u.there b o e hc) u.tups u.frzs u.tbls (λm' hm=>by
  obtain⟨o',es',ep',ho',r'⟩:=hm
  rw[ho]at ho';cases ho'
  exact⟨_,es',ep',hL,r'⟩) hok hg
theorem Inv.turned{t':Nat}{it:Addr}(I:Inv X pins σ H s)(k:∀b o,b≠it->s.heap.get? b=some o->h'.get? b=some o)(hn:H it=none)(hL:it≠X.env.locals)
  (h1:it∈X.ex\/X.s₀.heap.objs.size<=it) (h2:∀x c,X.env.cells.lookup x=some c->c≠it) (h3:∀p∈X.pn++pins,p.1≠it):Inv X pins σ H {s with heap:=h',toks:=t'}:=by
 have nit:∀b u,H b=some u->b≠it:=λb u e z=>by rw[z,hn]at e;cases e
 refine I.step (g':=s.gens) (d':=s.drawn) (ch:=[it]) (λb hb=>?_) (λb o _ _ hc e _=>k b o (λz=>hc (by simp[z])) e) (λb o _ _ hc e _=>⟨o.slots,k b o (λz=>hc (by simp[z])) e⟩) (λ_ _ _ _ n=>n)
  (λb o hc e=>⟨o,k b o (λz=>hc (by simp[z])) e⟩) (λ_ _ e=>e) (λ_ _ _ e=>e) (λb ps e=>⟨#[],by rw[e];simp⟩) (λm hm=>?_) (λb u e=>?_) I.bare
 ·have e:b=it:=by simpa using hb
  subst e
  exact⟨h1,hL,h2,h3⟩
 ·obtain⟨o,es,ep,ho,r⟩:=hm
  exact⟨o,es,ep,k _ o (O3 hL) ho,r⟩
 ·refine(I.hok b u e).stay (λc v hc q=>k c v ?_ q) (λ_ q=>q) λ_ _ q=>q
  rcases hc with z|z
  ·rw[z];exact nit b u e
  ·exact nit c _ z
theorem Inv.tok(I:Inv X pins σ H s)(t:Nat):Inv X pins σ H {s with toks:=t}:=I.un (h':=s.heap) (t':=t) Un.refl I.hok
theorem Inv.kept{t':Nat}(I:Inv X pins σ H s)(k:∀b u,s.heap.get? b=some u->h'.get? b=some u):Inv X pins σ H {s with heap:=h',toks:=t'}:=I.un (Un.kept k) (I.hok.kept k)
theorem Inv.laid{a:Addr}{o:HO}{t':Nat}(I:Inv X pins σ H s)(k:∀b u,s.heap.get? b=some u->h'.get? b=some u)(hp:s.heap.objs.size<=a)(new:ObjOk X.prog X.w (upd H a o) h' a o) :
  Inv X pins σ (upd H a o) {s with heap:=h',toks:=t'}:=I.un (Un.laid k hp (I.hok.fresh hp)) (I.hok.laid k hp new)
theorem Inv.write{x e:Addr}{o:HO}{t':Nat}(I:Inv X pins σ H s)(mu:Mut (H x))(he:e=x\/H e=some (.own x))(k:∀b u,b≠e->s.heap.get? b=some u->h'.get? b=some u)(heo:∃u,h'.get? e=some u)
  (new:ObjOk X.prog X.w (upd H x o) h' x o):Inv X pins σ (upd H x o) {s with heap:=h',toks:=t'}:=I.un (Un.write mu he k heo) (I.hok.write mu he k heo new)
theorem Inv.pins_of{pins':List (Addr×Obj)}(I:Inv X pins σ H s)(h:∀p∈pins',s.heap.get? p.1=some p.2/\H p.1=none/\p.1≠X.env.locals/\p.1∉X.fs/\∀v,p.2.data≠.cell v):Inv X pins' σ H s :=
 ⟨I.ok,I.os,I.bare,I.base,I.loc,I.cell,I.free,I.freeC,λp hp=>(A0.mp hp).elim (λz=>I.pin p (Im _ z)) (h p),I.hok,I.len⟩
theorem jgp{N:List Str}(hN:N.Nodup){i j:Nat}{x:Str}(a:N[i]?=some x)(b:N[j]?=some x):i=j:=by
 obtain⟨h1,e1⟩:=Ab.mp a
 obtain⟨h2,e2⟩:=Ab.mp b
 exact(List.getElem_inj hN).mp (e1.trans e2.symm)
theorem jf6{M:Model}{A:Around}{E:Value->Shared->Prop}{i:Nat}{x:Str}{v:V}{u:Value}{Q:Unit->Shared->Prop}(I:Inv X pins σ H s)(hN:X.N.Nodup)(hi:X.N[i]?=some x)(hx:Loc X.env.scope x)(r:RelV v u)
  (h:∀s',Inv X pins (σ.set i (some v)) H s'->(∃a,Heap.SameBut a s.heap s'.heap/\(a=X.env.locals\/X.env.cells.lookup x=some a))->Q () s') (hf:X.fn x=true\/X.env.scope.names.lookup x=some .local:=by first|exact .inl rfl|exact .inr rfl|assumption):wpAny M A (storeName X.env x u) Q E s:=by
 obtain⟨m,hn,hl⟩:=id I.loc
 have hcls:(X.env.scope.kind == .class || (X.env.scope.kind == .module && X.env.locals != X.env.globals))=false:=by rw[I.ok.kind];rfl
 have hiσ:i<σ.length:=by rw[I.len];exact(Ab.mp hi).1
 have cne:=I.cne
 have tracked:∀{a:Addr}{h':Heap},(∃o,s.heap.get? a=some o/\H a=none)->Heap.SameBut a s.heap h'->HOk X.prog X.w H h':=fun{a h'} ha hs b ob e=>by
  obtain⟨_,_,hfree⟩:=ha
  refine(I.hok b ob e).stay (λc w' hc q=>(hs.2 c ?_).trans q) (λ_ q=>q) λ_ _ q=>q
  rintro rfl
  rcases hc with rfl|hc
  ·rw[hfree]at e;cases e
  ·rw[hfree]at hc;cases hc
 rcases hx with hk|hk
 ·refine wpAny_storeName_local hk hn (λh' hn' hs=>?_) hcls
  obtain⟨oL,_,_,hoL,_⟩:=id hn
  refine h _ ⟨I.ok,I.os,I.bare,⟨λb o e n hb hx=>?_,λb o e n hb hx=>?_,I.base.free,λb o e hx=>?_,I.base.tups,I.base.frzs,I.base.tbls⟩,⟨_,hn',λj y v' e1 e2 e3=>?_⟩,λy c e=>?_,I.free,I.freeC,λp hp=>?_,tracked ⟨oL,hoL,I.free⟩ hs,by simpa using I.len⟩ ⟨_,hs,.inl rfl⟩
  ·exact(hs.2 b (Ip (Ig (A6 e) I.ok.above))).trans (I.base.keep b o e n hb hx)
  ·obtain⟨sl,e1⟩:=I.base.slot b o e n hb hx
   exact⟨sl,(hs.2 b (Ip (Ig (A6 e) I.ok.above))).trans e1⟩
  ·obtain⟨o',e1⟩:=I.base.there b o e hx
   exact⟨o',(hs.2 b (Ip (Ig (A6 e) I.ok.above))).trans e1⟩
  ·by_cases hj:j=i
   ·subst hj
    rw[hi]at e1;cases e1
    rw[List.getElem?_set_self hiσ]at e2
    cases e2
    exact⟨u,r,.inl ⟨hk,by simp⟩⟩
   ·rw[W6 (O3 hj)]at e2
    obtain⟨u',r',q⟩:=hl j y v' e1 e2 e3
    refine⟨u',r',?_⟩
    rcases q with⟨k,e⟩|⟨k,c,e,z⟩
    ·refine .inl ⟨k,?_⟩
     have:y≠x:=λe=>hj (jgp hN e1 (e▸hi))
     simp[this,e]
    ·exact .inr ⟨k,c,e,z.sameBut hs (cne y c e)⟩
  ·obtain⟨w',z⟩:=I.cell y c e
   exact⟨w',z.sameBut hs (cne y c e)⟩
  ·obtain⟨e,n,ne,nf,d⟩:=I.pin p hp
   exact⟨(hs.2 p.1 ne).trans e,n,ne,nf,d⟩
 ·have hfn:X.fn x=true:=by
   rcases hf with z|z
   ·exact z
   ·rw[z]at hk;cases hk
  obtain⟨c,hc⟩:=I.ok.has x (.inl hk)
  obtain⟨w',z⟩:=I.cell x c hc
  refine wpAny_storeName_cell I.ok.kind hk hc z (λh' hc' hs=>?_)
  obtain⟨oc,hoc,hocd⟩:=id z
  refine h {s with heap:=h'} ⟨I.ok,I.os,I.bare,⟨λb o e n hb hx=>?_,λb o e n hb hx=>?_,I.base.free,λb o e hx=>?_,I.base.tups,I.base.frzs,I.base.tbls⟩,⟨m,hn.sameBut hs (O3 (cne x c hc)),λj y v' e1 e2 e3=>?_⟩,λy c' e=>?_,I.free,I.freeC,λp hp=>?_,tracked ⟨oc,hoc,I.freeC x c hc⟩ hs,by simpa using I.len⟩ ⟨c,hs,.inr hc⟩
  ·exact(hs.2 b (Ip (Ig (A6 e) (I.ok.cab x c hfn hc)))).trans (I.base.keep b o e n hb hx)
  ·obtain⟨sl,e1⟩:=I.base.slot b o e n hb hx
   exact⟨sl,(hs.2 b (Ip (Ig (A6 e) (I.ok.cab x c hfn hc)))).trans e1⟩
  ·obtain⟨o',e1⟩:=I.base.there b o e hx
   exact⟨o',(hs.2 b (Ip (Ig (A6 e) (I.ok.cab x c hfn hc)))).trans e1⟩
  ·by_cases hj:j=i
   ·subst hj
    rw[hi]at e1;cases e1
    rw[List.getElem?_set_self hiσ]at e2
    cases e2
    exact⟨u,r,.inr ⟨.inl hk,c,hc,hc'⟩⟩
   ·rw[W6 (O3 hj)]at e2
    obtain⟨u',r',q⟩:=hl j y v' e1 e2 e3
    refine⟨u',r',?_⟩
    rcases q with q|⟨k,c',e,z'⟩
    ·exact .inl q
    ·refine .inr ⟨k,c',e,z'.sameBut hs ?_⟩
     rintro rfl
     exact hj (jgp hN e1 (I.ok.inj _ _ _ e hc▸hi))
  ·by_cases hcc:c'=c
   ·subst hcc;exact⟨_,hc'⟩
   ·obtain⟨w2,z2⟩:=I.cell y c' e
    exact⟨w2,z2.sameBut hs hcc⟩
  ·obtain⟨e,n,ne,nf,d⟩:=I.pin p hp
   refine⟨(hs.2 p.1 ?_).trans e,n,ne,nf,d⟩
   intro q
   rw[q,hoc]at e
   have q':oc=p.2:=A7 e
   exact d w' (by rw[<-q'];exact hocd)
theorem je2{M:Model}{A:Around}{E:Value->Shared->Prop}{i:Nat}{x:Str}{v:V}{u:Value}{Q:Unit->Shared->Prop}(I:Inv X pins σ H s)(hN:X.N.Nodup)(hi:X.N[i]?=some x)(hx:Loc X.env.scope x)(r:RelV v u)
  (h:∀s',Inv X pins (σ.set i (some v)) H s'->Q () s') (hf:X.fn x=true\/X.env.scope.names.lookup x=some .local:=by first|exact .inl rfl|exact .inr rfl|assumption):wpAny M A (storeName X.env x u) Q E s :=
 jf6 I hN hi hx r (λs' I' _=>h s' I') hf
theorem Inv.call'{s':Shared}{ch:List Addr}(I:Inv X pins σ H s)(ho:s'.os=s.os)(u:Un (frs X.stack) ch H H' s.heap s'.heap)(hok:HOk X.prog X.w H' s'.heap)(hg:AllBare s'.gens)
  (hch:∀b∈ch,(b∈X.ex\/X.s₀.heap.objs.size<=b)/\b≠X.env.locals/\(∀x c,X.env.cells.lookup x=some c->c≠b)/\∀p∈X.pn++pins,p.1≠b):Inv X pins σ H' s':=by
 obtain⟨h',g',d',t',o'⟩:=s'
 have e:o'=s.os:=ho
 subst e
 exact I.call (g':=g') (t':=t') (d':=d') u hok hg hch
end
abbrev XK:=Value->Option Addr->Hp->Prop
abbrev St:=List (Option V)
abbrev VK:=V->Hp->Prop
abbrev TE:=St->Hp->VK->Prop
abbrev TT:=St->Hp->(Bool->Hp->Prop)->Prop
abbrev TA:=St->Hp->(List V->Hp->Prop)->Prop
structure Ends where
 nx:St->Hp->Prop
 rt:VK
 bk:St->Hp->Prop:=λ_ _=>False
 ct:St->Hp->Prop:=λ_ _=>False
abbrev TS:=Ends->St->Hp->Prop
def EP(X:Cx)(pins:List (Addr×Obj))(σ:St)(Q:VK)(u:Value)(s':Shared):Prop:=∃v H',Inv X pins σ H' s'/\RelV v u/\Q v H'
def TP(X:Cx)(pins:List (Addr×Obj))(σ:St)(Q:Bool->Hp->Prop)(b:Bool)(s':Shared):Prop:=∃H',Inv X pins σ H' s'/\Q b H'
def AP(X:Cx)(pins:List (Addr×Obj))(σ:St)(Q:List V->Hp->Prop)(us:List Value)(s':Shared):Prop:=∃vs H',Inv X pins σ H' s'/\Vals vs us/\Q vs H'
def SP(X:Cx)(pins:List (Addr×Obj))(D:Ends)(f:Flow)(s':Shared):Prop :=
 match f with
 |.next=>∃σ' H',Inv X pins σ' H' s'/\D.nx σ' H'
 |.brk=>∃σ' H',Inv X pins σ' H' s'/\D.bk σ' H'
 |.cont=>∃σ' H',Inv X pins σ' H' s'/\D.ct σ' H'
 |.ret u=>∃v σ' H',Inv X pins σ' H' s'/\RelV v u/\D.rt v H'
def PE(X:Cx)(e:Expr)(t:TE):Prop :=
 ∀(pins:List (Addr×Obj))(s:Shared)(σ:St)(H:Hp)(Q:VK),Inv X pins σ H s->t σ H Q->wpAny (model X.prog X.w) X.A (eval e X.env) (EP X pins σ Q) X.xe s
def PT(X:Cx)(e:Expr)(t:TT):Prop :=
 ∀(pins:List (Addr×Obj))(s:Shared)(σ:St)(H:Hp)(Q:Bool->Hp->Prop),Inv X pins σ H s->t σ H Q->wpAny (model X.prog X.w) X.A (isTrue e X.env (eval e X.env)) (TP X pins σ Q) X.xe s
def PW(X:Cx)(e:Expr)(t:TT):Prop :=
 ∀(whole:Sem Value)(pins:List (Addr×Obj))(s:Shared)(σ:St)(H:Hp)(Q:Bool->Hp->Prop),Inv X pins σ H s->t σ H Q->wpAny (model X.prog X.w) X.A (isTrue e X.env whole) (TP X pins σ Q) X.xe s
theorem PW.pt{X:Cx}{e:Expr}{t:TT}(h:PW X e t):PT X e t:=h _
def PA(X:Cx)(es:List Expr)(t:TA):Prop :=
 ∀(pos:Pos)(pins:List (Addr×Obj))(s:Shared)(σ:St)(H:Hp)(Q:List V->Hp->Prop),Inv X pins σ H s->t σ H Q->wpAny (model X.prog X.w) X.A (spliced (backTo pos (starEach es X.env))) (AP X pins σ Q) X.xe s
def PS(X:Cx)(st:Stmt)(t:TS):Prop :=
 ∀(pins:List (Addr×Obj))(s:Shared)(σ:St)(H:Hp)(D:Ends),Inv X pins σ H s->t D σ H->wpAny (model X.prog X.w) X.A (exec st X.env) (SP X pins D) X.xe s
def PSs(X:Cx)(st:List Stmt)(t:TS):Prop :=
 ∀(pins:List (Addr×Obj))(s:Shared)(σ:St)(H:Hp)(D:Ends),Inv X pins σ H s->t D σ H->wpAny (model X.prog X.w) X.A (execs st X.env) (SP X pins D) X.xe s
theorem thn{α:Type}{t:Sem α}{Q Q':α->Shared->Prop}{M:Model}{A:Around}{E:Value->Shared->Prop}{s:Shared}(h:wpAny M A t Q E s)(hQ:∀a s,Q a s->Q' a s):wpAny M A t Q' E s:=Ol h hQ λ_ _ x=>x
section
variable{X:Cx}
def tVar(i:Nat):TE:=λσ H Q=>∃v,σ[i]?=some (some v)/\Q v H
def tC(v:V):TE:=λ_ H Q=>Q v H
theorem jbx{i:Nat}{x:Str}{pos:Pos}(hN:X.N[i]?=some x)(hv:Vis X.env.scope x)(hd:(x == ("__debug__":Str))=false:=by decide)(hcd:(x == ("__classdict__":Str))=false:=by decide):PE X (.Name x pos) (tVar i):=by
 intro pins s σ H Q I h
 obtain⟨v,e,h⟩:=h
 obtain⟨m,hn,hl⟩:=I.loc
 obtain⟨u,r,l⟩:=hl i x v hN e hv
 have fin:EP X pins σ Q u s:=⟨v,H,I,r,h⟩
 rcases l with⟨hk,hm⟩|⟨hk,c,hc,hcell⟩
 ·exact wpAny_Name (wpAny_loadName_local I.ok.kind hk hn hm fin) hd
 ·rcases hk with hk|hk
  ·exact wpAny_Name (wpAny_loadName_cell I.ok.kind hk hc hcell fin) hd
  ·exact wpAny_Name (wpAny_loadName_free I.ok.kind hk hc hcell fin hcd) hd
theorem pe_int{i j pos}:PE X (.Constant (.int i) j pos) (tC (.int i)):=λ_ _ _ H _ I h=>wpAny_Constant_int ⟨.int i,H,I.tok _,⟨_,rfl⟩,h⟩
theorem pe_bl{b j pos}:PE X (.Constant (.bool b) j pos) (tC (.bl b)):=λ_ _ _ H _ I h=>Constant_bool ⟨.bl b,H,I,rfl,h⟩
theorem pe_non{j pos}:PE X (.Constant .none j pos) (tC .non):=λ_ _ _ H _ I h=>Constant_none ⟨.non,H,I,rfl,h⟩
theorem pe_str{x j pos}:PE X (.Constant (.str x) j pos) (tC (.str x)):=λ_ _ _ H _ I h=>Calls.Constant_str ⟨.str x,H,I.tok _,⟨_,rfl⟩,h⟩
def Gl(X:Cx)(x:Str):Prop:=X.env.kindOf x=some .globalImplicit
theorem je9{E:Value->Shared->Prop}{pins:List (Addr×Obj)}{s:Shared}{σ:St}{H:Hp}{x:Str}{u:Value}{pos:Pos}{Q:Value->Shared->Prop}(I:Inv X pins σ H s)(hg:Gl X x)(hm:X.mg x=some u)(h:Q u s)
  (hd:(x == ("__debug__":Str))=false:=by decide):wpAny (model X.prog X.w) X.A (eval (.Name x pos) X.env) Q E s :=
 Calls.Name_function_global I.ok.kind hg (Calls.loadGlobal_global (by rw[I.ok.glob];exact I.mod.glob.keeps I.bk) hm h) hd
theorem jhe{E:Value->Shared->Prop}{pins:List (Addr×Obj)}{s:Shared}{σ:St}{H:Hp}{x:Str}{u:Value}{pos:Pos}{Q:Value->Shared->Prop}(I:Inv X pins σ H s)(hg:Gl X x)(hm:X.mg x=none)(hv:bootBuiltins x=some u)(h:Q u s)
  (hn:x≠"__name__":=by decide) (hd:(x == ("__debug__":Str))=false:=by decide):wpAny (model X.prog X.w) X.A (eval (.Name x pos) X.env) Q E s:=by
 obtain⟨mb,h1,h2⟩:=I.mod.blt
 exact Calls.Name_function_global I.ok.kind hg (Calls.loadGlobal_builtin (by rw[I.ok.glob];exact I.mod.glob.keeps I.bk) hm (by rw[I.ok.blt];exact h1.keeps I.bk) ((h2 x hn).trans hv) h) hd
theorem pe_glob{x:Str}{v:V}{u:Value}{pos:Pos}(hg:Gl X x)(hm:X.mg x=some u)(r:RelV v u)(hd:(x == ("__debug__":Str))=false:=by decide):PE X (.Name x pos) (tC v) :=
 λ_ _ _ H _ I h=>je9 I hg hm ⟨v,H,I,r,h⟩ hd
variable{a b:Expr}{ta tb:TE}{pos:Pos}
def PC(X:Cx)(op:CmpOp)(a b:Expr)(t:TE):Prop :=
 ∀(pins:List (Addr×Obj))(s:Shared)(σ:St)(H:Hp)(Q:VK),Inv X pins σ H s->t σ H Q ->
  wpAny (model X.prog X.w) X.A (eval a X.env) (λv s₁=>wpAny (model X.prog X.w) X.A (eval b X.env) (λu s₂=>wpAny (model X.prog X.w) X.A (compareOp op v u) (EP X pins σ Q) X.xe s₂) X.xe s₁) X.xe s
def tB(t:TE):TT:=λσ H Q=>t σ H λx H1=>∃c,x=.bl c/\Q c H1
theorem pt_cmp{op:CmpOp}{t:TE}(h:PC X op a b t)(h1:behindInMarks op b=false:=by first|exact nobehind _ (by decide) (by decide)|rfl):PT X (.Compare a [op] [b] pos) (tB t):=by
 intro pins s σ H Q I hw
 refine wpAny_isTrue_Compare1 (thn (h pins s σ H _ I hw) λv s1 h1=>thn h1 λu s2 h2=>thn h2 λc s3 ⟨x,H1,I1,r1,q1⟩=>?_) h1
 obtain⟨d,rfl,q⟩:=q1
 cases r1
 exact U3 ⟨H1,I1,q⟩
theorem pt_val{e:Expr}{t:TE}(h:PE X e t)(he:∀whole,isTrue e X.env whole=(do let v <-whole;standAt e.pos;holding [v] (truthy v)):=by intro _;rfl):PT X e (tB t):=by
 intro pins s σ H Q I hw
 refine isTrue_plain (thn (h pins s σ H _ I hw) λv s1 ⟨x,H1,I1,r1,q1⟩=>?_) (he _)
 obtain⟨d,rfl,q⟩:=q1
 cases r1
 exact U3 ⟨H1,I1,q⟩
variable{tA tB':TT}{rest:List Expr}
def tAnd(t u:TT):TT:=λσ H Q=>t σ H λc H1=>if c=true then u σ H1 Q else Q false H1
def tOr(t u:TT):TT:=λσ H Q=>t σ H λc H1=>if c=true then Q true H1 else u σ H1 Q
def tNot(t:TT):TT:=λσ H Q=>t σ H λc H1=>Q (!c) H1
theorem pw_and1(ha:PT X a tA):PW X (.BoolOp .And [a] pos) tA:=by
 intro wh pins s σ H Q I h
 refine isTrue_and (thn (ha pins s σ H Q I h) λc s1 e=>?_)
 cases c with
 |true=>exact isTrue_and_nil e
 |false=>exact e
theorem pw_or1(ha:PT X a tA):PW X (.BoolOp .Or [a] pos) tA:=by
 intro wh pins s σ H Q I h
 refine isTrue_or (thn (ha pins s σ H Q I h) λc s1 e=>?_)
 cases c with
 |false=>exact isTrue_or_nil e
 |true=>exact e
theorem pw_and(ha:PT X a tA)(hb:PW X (.BoolOp .And (b::rest) pos) tB'):PW X (.BoolOp .And (a::b::rest) pos) (tAnd tA tB'):=by
 intro wh pins s σ H Q I h
 refine isTrue_and (thn (ha pins s σ H _ I h) λc s1 ⟨H1,I1,q1⟩=>?_)
 cases c with
 |true=>exact hb wh pins s1 σ H1 Q I1 q1
 |false=>exact⟨H1,I1,q1⟩
theorem pw_or(ha:PT X a tA)(hb:PW X (.BoolOp .Or (b::rest) pos) tB'):PW X (.BoolOp .Or (a::b::rest) pos) (tOr tA tB'):=by
 intro wh pins s σ H Q I h
 refine isTrue_or (thn (ha pins s σ H _ I h) λc s1 ⟨H1,I1,q1⟩=>?_)
 cases c with
 |true=>exact⟨H1,I1,q1⟩
 |false=>exact hb wh pins s1 σ H1 Q I1 q1
theorem pt_not(ha:PT X a tA):PT X (.UnaryOp .Not a pos) (tNot tA):=by
 intro pins s σ H Q I h
 exact isTrue_not (ha pins s σ H (λc H1=>Q (!c) H1) I h)
def jda(ta tb:TE):TE:=λσ H Q=>ta σ H λx H1=>∃c,x=.bl c/\if c=true then tb σ H1 Q else Q (.bl false) H1
def jdj(ta:TE):TE:=λσ H Q=>ta σ H λx H1=>∃c,x=.bl c/\Q (.bl (!c)) H1
theorem pe_one{op}{t:TE}(h:PE X a t):PE X (.BoolOp op [a] pos) t:=λpins s σ H Q I hw=>BoolOp_one (h pins s σ H Q I hw)
theorem pe_and(ha:PE X a ta)(hb:PE X (.BoolOp .And (b::rest) pos) tb):PE X (.BoolOp .And (a::b::rest) pos) (jda ta tb):=by
 intro pins s σ H Q I h
 refine BoolOp_and (thn (ha pins s σ H _ I h) λv s1 ⟨x,H1,I1,r1,q1⟩=>?_)
 obtain⟨c,rfl,q1⟩:=q1
 cases r1
 refine U3 ?_
 cases c with
 |true=>exact hb pins s1 σ H1 Q I1 q1
 |false=>exact⟨.bl false,H1,I1,rfl,q1⟩
theorem pe_not(ha:PE X a ta):PE X (.UnaryOp .Not a pos) (jdj ta):=by
 intro pins s σ H Q I h
 refine UnaryOp_ (thn (ha pins s σ H _ I h) λv s1 ⟨x,H1,I1,r1,q1⟩=>?_)
 obtain⟨c,rfl,q1⟩:=q1
 cases r1
 exact not_of (U3 ⟨.bl (!c),H1,I1,rfl,q1⟩)
end
def SqL(K:PySem.W.Frag)(H:Hp)(a:Addr)(xs:List V):Prop :=
 Rd H a (.lst xs) \/
  ∃(o:Obj)(its:Array Value)(n:Nat),K.lookup a=some o/\o.cls=.type "list"/\o.dict=none/\o.data=.seq its n/\its.size<=sizeLine/\Vals xs its.toList
def SqT(K:PySem.W.Frag)(H:Hp)(a:Addr)(xs:List V):Prop :=
 Rd H a (.tup xs) \/
  ∃(o:Obj)(its:Array Value)(n:Nat),K.lookup a=some o/\o.cls=.type "tuple"/\o.data=.seq its n/\its.size<=sizeLine/\Vals xs its.toList
def absV:Value->Option V
 |.none=>some .non
 |.bool b=>some (.bl b)
 |.int i _=>some (.int i)
 |.str x _=>some (.str x)
 |.bytes b _=>some (.byt b)
 |.float b _=>some (.flt b)
 |.ref a=>some (.ref a)
 |.type n=>some (.ty n)
 |_=>none
theorem RelV.abs{x:V}{u:Value}(r:RelV x u):absV u=some x:=by
 cases x with
 |non=>cases r;rfl
 |bl _=>cases r;rfl
 |int _=>obtain⟨t,rfl⟩:=r;rfl
 |str _=>obtain⟨t,rfl⟩:=r;rfl
 |byt _=>obtain⟨t,rfl⟩:=r;rfl
 |flt _=>obtain⟨t,rfl⟩:=r;rfl
 |ref _=>cases r;rfl
 |ty _=>cases r;rfl
theorem RelV.inj{x y:V}{u:Value}(r:RelV x u)(q:RelV y u):x=y:=A7 (r.abs.symm.trans q.abs)
theorem Vals.inj:∀{xs ys:List V}{us:List Value},Vals xs us->Vals ys us->xs=ys
 |_,_,_,.nil,.nil=>rfl
 |_,_,_,.cons r t,.cons r' t'=>by rw[r.inj r',Vals.inj t t']
section
variable{X:Cx}{pins:List (Addr×Obj)}{σ:St}{H:Hp}{s:Shared}{a:Addr}{xs ys:List V}
theorem SqL.of{K:PySem.W.Frag}(h:H a=some (.lst xs)):SqL K H a xs:=.inl (.inl h)
theorem SqT.of{K:PySem.W.Frag}(h:H a=some (.tup xs)):SqT K H a xs:=.inl (.inl h)
theorem Inv.list(I:Inv X pins σ H s)(h:SqL X.K H a xs):∃its:List Value,Vals xs its/\PlainL s.heap a its.toArray/\xs.length<=sizeLine:=by
 rcases h with h|⟨o,its,n,hk,hc,hd,hs,hz,r⟩
 ·obtain⟨z,its,n,r,e⟩:=h.ok I.hok
  exact⟨its,r,⟨_,n,e,rfl,rfl,rfl⟩,z⟩
 ·refine⟨its.toList,r,⟨o,n,I.kIn a o hk,hc,hd,by simpa using hs⟩,?_⟩
  have e:=r.length
  simp only[Array.length_toList]at e
  omega
theorem Inv.tuple(I:Inv X pins σ H s)(h:SqT X.K H a xs):∃its:List Value,Vals xs its/\IsTup s.heap a its.toArray/\xs.length<=sizeLine:=by
 rcases h with h|⟨o,its,n,hk,hc,hs,hz,r⟩
 ·obtain⟨z,its,r,p⟩:=h.ok I.hok
  exact⟨its,r,p,z⟩
 ·refine⟨its.toList,r,⟨o,I.kIn a o hk,hc,n,by simpa using hs⟩,?_⟩
  have e:=r.length
  simp only[Array.length_toList]at e
  omega
theorem Inv.list_inj(I:Inv X pins σ H s)(h:SqL X.K H a xs)(h':SqL X.K H a ys):xs=ys:=by
 obtain⟨its,r,⟨o,n,e,_,_,d⟩,_⟩:=I.list h
 obtain⟨its',r',⟨o',n',e',_,_,d'⟩,_⟩:=I.list h'
 rw[e]at e';cases e'
 rw[d]at d'
 injection d' with d1 _
 have:its=its':=by simpa using Uh Array.toList d1
 subst this
 exact r.inj r'
theorem Inv.tuple_inj(I:Inv X pins σ H s)(h:SqT X.K H a xs)(h':SqT X.K H a ys):xs=ys:=by
 obtain⟨its,r,⟨o,e,_,n,d⟩,_⟩:=I.tuple h
 obtain⟨its',r',⟨o',e',_,n',d'⟩,_⟩:=I.tuple h'
 rw[e]at e';cases e'
 rw[d]at d'
 injection d' with d1 _
 have:its=its':=by simpa using Uh Array.toList d1
 subst this
 exact r.inj r'
end
abbrev Cx.wish(X:Cx)(E:Value->Shared->Prop):Cx:={X with xe:=E}
abbrev Cx.nox(X:Cx):Cx:=X.wish λ_ _=>False
theorem Cx.Ok.wish{X:Cx}(ok:X.Ok)(E:Value->Shared->Prop):(X.wish E).Ok :=
 ⟨ok.mod,ok.kind,ok.glob,ok.blt,ok.above,ok.inj,ok.has,ok.cab,ok.hd,ok.frames,ok.stk,ok.exf,ok.bs,ok.bsz,ok.noex,ok.exfs,ok.funs,ok.frf⟩
theorem Cx.Ok.unwish{X:Cx}{E:Value->Shared->Prop}(ok:(X.wish E).Ok):X.Ok :=
 ⟨ok.mod,ok.kind,ok.glob,ok.blt,ok.above,ok.inj,ok.has,ok.cab,ok.hd,ok.frames,ok.stk,ok.exf,ok.bs,ok.bsz,ok.noex,ok.exfs,ok.funs,ok.frf⟩
section
variable{X:Cx}{pins:List (Addr×Obj)}{σ:St}{H:Hp}{s:Shared}{E:Value->Shared->Prop}
theorem Inv.wish(I:Inv X pins σ H s)(E:Value->Shared->Prop):Inv (X.wish E) pins σ H s:=⟨I.ok.wish E,I.os,I.bare,I.base,I.loc,I.cell,I.free,I.freeC,I.pin,I.hok,I.len⟩
theorem Inv.unwish(I:Inv (X.wish E) pins σ H s):Inv X pins σ H s:=⟨I.ok.unwish,I.os,I.bare,I.base,I.loc,I.cell,I.free,I.freeC,I.pin,I.hok,I.len⟩
theorem SP.unwish{D:Ends}{f:Flow}{s':Shared}(h:SP (X.wish E) pins D f s'):SP X pins D f s':=by
 cases f with
 |next=>obtain⟨σ',H',I,q⟩:=h;exact⟨σ',H',I.unwish,q⟩
 |brk=>obtain⟨σ',H',I,q⟩:=h;exact⟨σ',H',I.unwish,q⟩
 |cont=>obtain⟨σ',H',I,q⟩:=h;exact⟨σ',H',I.unwish,q⟩
 |ret u=>obtain⟨v,σ',H',I,r,q⟩:=h;exact⟨v,σ',H',I.unwish,r,q⟩
theorem PSs.nox{st:List Stmt}{t:TS}(h:PSs X.nox st t):PSs X st t:=λpins s σ H D I hw =>
 Ol (h pins s σ H D (I.wish _) hw) (λ_ _ q=>q.unwish) λ_ _ z=>False.elim z
end
section
variable{X:Cx}{st:Stmt}{rest:List Stmt}{t u:TS}{e:Expr}{te:TE}{pos:Pos}
def jdi:TS:=λD σ H=>D.nx σ H
def tSeq(t u:TS):TS:=λD σ H=>t {D with nx:=u D} σ H
theorem pss_nil:PSs X [] jdi:=λ_ _ σ H _ I h=>O6 ⟨σ,H,I,h⟩
theorem pss_cons(h1:PS X st t)(h2:PSs X rest u):PSs X (st::rest) (tSeq t u):=by
 intro pins s σ H D I h
 refine Uu (thn (h1 pins s σ H {D with nx:=u D} I h) λf s1 q=>?_)
 cases f with
 |next =>
  obtain⟨σ',H',I',q⟩:=q
  exact h2 pins s1 σ' H' D I' q
 |ret v=>exact q
 |brk=>exact q
 |cont=>exact q
theorem pss_one(h1:PS X st t):PSs X [st] t:=by
 intro pins s σ H D I h
 refine Uu (thn (h1 pins s σ H D I h) λf s1 q=>?_)
 cases f with
 |next=>exact O6 q
 |ret v=>exact q
 |brk=>exact q
 |cont=>exact q
def jdf:TS:=λD σ H=>D.ct σ H
theorem ps_continue:PS X (.Continue pos) jdf:=λ_ _ σ H _ I h=>wpAny_Continue ⟨σ,H,I,h⟩
theorem Inv.quiet{pins:List (Addr×Obj)}{σ:St}{H:Hp}{s:Shared}(I:Inv X pins σ H s):interactive X.env=false:=by simp[interactive,I.ok.kind]
def jdg(te:TE):TS:=λD σ H=>te σ H λ_ H1=>D.nx σ H1
theorem ps_expr(he:PE X e te)(hs:swapsWith e none pos.line X.env=pure false:=by rfl):PS X (.Expr e pos) (jdg te):=by
 intro pins s σ H D I h
 exact wpAny_Expr_any (thn (he pins s σ H _ I h) λv s1 ⟨x,H1,I1,r1,q1⟩=>⟨σ,H1,I1,q1⟩) I.quiet hs
def tRet(te:TE):TS:=λD σ H=>te σ H D.rt
theorem ps_ret(he:PE X e te):PS X (.Return (some e) pos) (tRet te):=by
 intro pins s σ H D I h
 exact wpAny_Return_some (thn (he pins s σ H _ I h) λv s1 ⟨x,H1,I1,r1,q1⟩=>⟨x,σ,H1,I1,r1,q1⟩)
def tIfS(c:TT)(t u:TS):TS:=λD σ H=>c σ H λb H1=>if b=true then t D σ H1 else u D σ H1
theorem ps_if{c:Expr}{a b:List Stmt}{tc:TT}(hc:PT X c tc)(ha:PSs X a t)(hb:PSs X b u):PS X (.If c a b pos) (tIfS tc t u):=by
 intro pins s σ H D I h
 refine wpAny_If (thn (hc pins s σ H _ I h) λd s1 ⟨H1,I1,q1⟩=>?_)
 cases d with
 |true=>exact ha pins s1 σ H1 D I1 q1
 |false=>exact hb pins s1 σ H1 D I1 q1
def jjl:TS:=λ_ _ _=>False
theorem ps_never:PS X st jjl:=λ_ _ _ _ _ _ h=>h.elim
theorem pss_never{sts:List Stmt}:PSs X sts jjl:=λ_ _ _ _ _ _ h=>h.elim
end
abbrev TG:=V->St->Hp->(St->Hp->Prop)->Prop
abbrev TGs:=List V->St->Hp->(St->Hp->Prop)->Prop
def PG(X:Cx)(target:Expr)(t:TG):Prop :=
 ∀(pins:List (Addr×Obj))(s:Shared)(σ:St)(H:Hp)(v:V)(u:Value)(Q:St->Hp->Prop),Inv X pins σ H s->RelV v u->t v σ H Q ->
  wpAny (model X.prog X.w) X.A (assign target X.env u) (λ_ s'=>∃σ' H',Inv X pins σ' H' s'/\Q σ' H') X.xe s
def PGs(X:Cx)(ts:List Expr)(t:TGs):Prop :=
 ∀(pins:List (Addr×Obj))(s:Shared)(σ:St)(H:Hp)(vs:List V)(us:List Value)(Q:St->Hp->Prop),Inv X pins σ H s->Vals vs us->t vs σ H Q ->
  wpAny (model X.prog X.w) X.A (assignInOrder ((assignEach ts X.env).map (·.2)) us) (λ_ s'=>∃σ' H',Inv X pins σ' H' s'/\Q σ' H') X.xe s
abbrev TSet:=V->V->V->Hp->(Hp->Prop)->Prop
def PSet(X:Cx)(t:TSet):Prop :=
 ∀(pins:List (Addr×Obj))(s:Shared)(σ:St)(H:Hp)(o i v:V)(ov iv u:Value)(Q:Hp->Prop),Inv X pins σ H s->RelV o ov->RelV i iv->RelV v u->t o i v H Q ->
  wpAny (model X.prog X.w) X.A (setItem ov iv u) (λ_ s'=>∃H',Inv X pins σ H' s'/\Q H') X.xe s
abbrev TIp:=V->V->Hp->VK->Prop
def PIp(X:Cx)(op:Operator)(t:TIp):Prop :=
 ∀(pins:List (Addr×Obj))(s:Shared)(σ:St)(H:Hp)(x y:V)(v u:Value)(Q:VK),Inv X pins σ H s->RelV x v->RelV y u->t x y H Q ->
  wpAny (model X.prog X.w) X.A (inplaceOp op v u) (EP X pins σ Q) X.xe s
section
variable{X:Cx}{pos:Pos}
def jc4(i:Nat):TG:=λv σ H Q=>Q (σ.set i (some v)) H
theorem pg_name{i:Nat}{x:Str}(hN:X.N.Nodup)(hi:X.N[i]?=some x)(hx:Loc X.env.scope x)(hf:X.fn x=true\/X.env.scope.names.lookup x=some .local:=by first|exact .inl rfl|exact .inr rfl|assumption):PG X (.Name x pos) (jc4 i):=by
 intro pins s σ H v u Q I r h
 exact wpAny_assign_Name (je2 I hN hi hx r (λs' I'=>⟨_,H,I',h⟩) hf)
def gNil:TGs:=λvs σ H Q=>vs=[]/\Q σ H
def jm6(t:TG)(u:TGs):TGs:=λvs σ H Q=>∃v r,vs=v::r/\t v σ H λσ' H'=>u r σ' H' Q
theorem pgs_nil:PGs X [] gNil:=by
 intro pins s σ H vs us Q I r h
 obtain⟨e,h⟩:=h
 subst e
 cases r
 exact assignInOrder_nil ⟨σ,H,I,h⟩
theorem pgs_cons{e:Expr}{es:List Expr}{t:TG}{u:TGs}(h1:PG X e t)(h2:PGs X es u)
  (hs:(assignEach (e::es) X.env).map (·.2)=assign e X.env::(assignEach es X.env).map (·.2):=by rfl):PGs X (e::es) (jm6 t u):=by
 intro pins s σ H vs us Q I r h
 obtain⟨v,vr,e1,h⟩:=h
 subst e1
 cases r with
 |cons r rr =>
  rw[hs]
  refine assignInOrder_cons (thn (h1 pins s σ H _ _ _ I r h) λ_ s1 ⟨σ1,H1,I1,q1⟩=>?_)
  exact h2 pins s1 σ1 H1 _ _ Q I1 rr q1
def gTup(K:PySem.W.Frag)(n:Nat)(t:TGs):TG:=λv σ H Q=>∃a xs,v=.ref a/\SqT K H a xs/\xs.length=n/\t xs σ H Q
theorem pg_tup{es:List Expr}{k:Nat}{t:TGs}{n:Nat}(hc:X.calm=true)(h:PGs X es t)
  (hn:(assignEach es X.env).length=n:=by rfl) (hst:(assignEach es X.env).findIdx? (·.1)=none:=by rfl):PG X (.Tuple es k pos) (gTup X.K n t):=by
 intro pins s σ H v u Q I r hw
 obtain⟨a,xs,e1,hq,hl,hw⟩:=hw
 subst e1
 cases r
 obtain⟨its,rv,ht,hz⟩:=I.tuple hq
 refine assign_Tuple_tuple (I.ok.hd hc) ht (by simp[hn,<-hl,rv.length]) hst λh' hx=>?_
 have I1:Inv X pins σ H {s with heap:=h'}:=I.kept (t':=s.toks) λb o e=>hx b o (Ip (A6 e)) e
 exact h pins _ σ H xs _ Q I1 (by simpa using rv) hw
def gSub(to ti:TE)(t:TSet):TG:=λv σ H Q=>to σ H λo H1=>ti σ H1 λi H2=>t o i v H2 λH3=>Q σ H3
theorem pg_sub{o i:Expr}{to ti:TE}{t:TSet}(ho:PE X o to)(hi:PE X i ti)(hs:PSet X t)
  (ha:∀v,assign (.Subscript o i pos) X.env v=(do
   let ov <-holding [v] (eval o X.env)
   let iv <-holding [v,ov] (eval i X.env)
   standAt pos
   holding [v,ov,iv] (setItem ov iv v)
   release [v,ov,iv] []):=by intro _;rfl):PG X (.Subscript o i pos) (gSub to ti t):=by
 intro pins s σ H v u Q I r h
 rw[ha]
 refine Ac (O9 (thn (ho pins s σ H _ I h) λov s1 ⟨x,H1,I1,r1,q1⟩=>?_))
 refine Ac (O9 (thn (hi pins s1 σ H1 _ I1 q1) λiv s2 ⟨y,H2,I2,r2,q2⟩=>?_))
 refine Ac (Uq (Ac (O9 (thn (hs pins s2 σ H2 x y v ov iv u _ I2 r1 r2 r q2) λ_ s3 ⟨H3,I3,q3⟩=>?_))))
 exact wpAny_release ⟨σ,H3,I3,q3⟩
def tAsg(te:TE)(g:TG):TS:=λD σ H=>te σ H λx H1=>g x σ H1 D.nx
theorem ps_asg{tg e:Expr}{te:TE}{g:TG}(he:PE X e te)(hg:PG X tg g)(hs:swapsWithSole [tg] e pos.line X.env=pure false:=by rfl)(hw:swappedStores [tg] e X.env=pure none:=by rfl)
  (h1:(assignEach [tg] X.env).map (·.2)=[assign tg X.env]:=by rfl):PS X (.Assign [tg] e pos) (tAsg te g):=by
 intro pins s σ H D I h
 refine wpAny_Assign_stores (thn (he pins s σ H _ I h) λv s1 ⟨x,H1,I1,r1,q1⟩=>?_) hs hw
 rw[h1]
 exact thn (hg pins s1 σ H1 x v _ I1 r1 q1) λ_ s2 q=>q
theorem ps_set{i:Nat}{x:Str}{e:Expr}{te:TE}{pos':Pos}(hN:X.N.Nodup)(hi:X.N[i]?=some x)(hx:Loc X.env.scope x)(he:PE X e te)(hs:swapsWith e (some (.Name x pos')) pos.line X.env=pure false:=by rfl)(hf:X.fn x=true\/X.env.scope.names.lookup x=some .local:=by first|exact .inl rfl|exact .inr rfl|assumption) :
  PS X (.Assign [.Name x pos'] e pos) (tAsg te (jc4 i)):=by
 intro pins s σ H D I h
 refine wpAny_Assign_Name (thn (he pins s σ H _ I h) λv s1 ⟨y,H1,I1,r1,q1⟩=>?_) hs
 exact je2 I1 hN hi hx r1 (λs2 I2=>⟨_,H1,I2,q1⟩) hf
def tAug(i:Nat)(te:TE)(ti:TIp):TS:=λD σ H=>∃x,σ[i]?=some (some x)/\te σ H λy H1=>ti x y H1 λz H2=>D.nx (σ.set i (some z)) H2
theorem ps_aug{i:Nat}{x:Str}{e:Expr}{te:TE}{op:Operator}{ti:TIp}{pos':Pos}(hN:X.N.Nodup)(hi:X.N[i]?=some x)(hx:Loc X.env.scope x)(he:PE X e te)(ho:PIp X op ti)(hf:X.fn x=true\/X.env.scope.names.lookup x=some .local:=by first|exact .inl rfl|exact .inr rfl|assumption) :
  PS X (.AugAssign (.Name x pos') op e pos) (tAug i te ti):=by
 intro pins s σ H D I h
 obtain⟨v,e1,h⟩:=h
 obtain⟨m,hn,hl⟩:=I.loc
 have vis:Vis X.env.scope x:=by rcases hx with k|k;exact .inl k;exact .inr (.inl k)
 obtain⟨u,r,l⟩:=hl i x v hi e1 vis
 refine wpAny_AugAssign_Name ?_
 have go:wpAny (model X.prog X.w) X.A (eval e X.env) (λw s₂=>wpAny (model X.prog X.w) X.A (inplaceOp op u w) (λr s₃=>wpAny (model X.prog X.w) X.A (storeName X.env x r) (λ_=>SP X pins D .next) X.xe s₃) X.xe s₂) X.xe s:=by
  refine thn (he pins s σ H _ I h) λw s1 ⟨y,H1,I1,r1,q1⟩=>?_
  refine thn (ho pins s1 σ H1 v y u w _ I1 r r1 q1) λz s2 ⟨zv,H2,I2,r2,q2⟩=>?_
  exact je2 I2 hN hi hx r2 (λs3 I3=>⟨_,H2,I3,q2⟩) hf
 rcases l with⟨hk,hm⟩|⟨hk,c,hc,hcell⟩
 ·exact wpAny_loadName_local I.ok.kind hk hn hm go
 ·rcases hk with hk|hk
  ·exact wpAny_loadName_cell I.ok.kind hk hc hcell go
  ·rcases hx with k|k
   ·have:X.env.scope.names.lookup x=some .free:=hk
    rw[k]at this;cases this
   ·have:X.env.scope.names.lookup x=some .free:=hk
    rw[k]at this;cases this
def ipI(f:Int->Int->Int):TIp:=λx y H Q=>∃i j,x=.int i/\y=.int j/\Q (.int (f i j)) H
theorem jof:PIp X .Add (ipI λi j=>i+j):=by
 intro pins s σ H x y v u Q I r1 r2 h
 obtain⟨i,j,e1,e2,q⟩:=h
 subst e1;subst e2
 obtain⟨t,rfl⟩:=r1
 obtain⟨t',rfl⟩:=r2
 exact iadd_int ⟨.int _,H,I.tok _,⟨_,rfl⟩,q⟩
def jhp(c:TT)(tb:TS):TS:=λD σ H=>∃W:Nat->St->Hp->Prop,(∃m,W m σ H)/\∀m σ H,W m σ H ->
 c σ H λb H1=>if b=true then ∃N:St->Hp->Prop,(∀σ' H',N σ' H'->∃m',m'<m/\W m' σ' H')/\tb {D with nx:=N,ct:=N,bk:=D.nx} σ H1 else D.nx σ H1
theorem ps_while{c:Expr}{body:List Stmt}{tc:TT}{tb:TS}(hp:PassesOwn (model X.prog X.w) X.A X.env X.xe)(hc:PT X c tc)(hb:PSs X body tb):PS X (.While c body [] pos) (jhp tc tb):=by
 intro pins s σ H D I h
 obtain⟨W,⟨m0,w0⟩,turn⟩:=h
 refine wpAny_While (codeAny_whileLoop (λn s'=>∃σ' H',Inv X pins σ' H' s'/\W n σ' H') ?_ m0 ⟨σ,H,I,w0⟩)
 rintro n s1 ⟨σ1,H1,I1,w1⟩
 refine Uo hp (thn (hc pins s1 σ1 H1 _ I1 (turn n σ1 H1 w1)) λb s2 ⟨H2,I2,q2⟩=>?_)
 cases b with
 |true =>
  obtain⟨N,hN,q2⟩:=q2
  rw[Am rfl]
  refine Uo hp (thn (hb pins s2 σ1 H2 _ I2 q2) λf s3 q3=>?_)
  cases f with
  |next =>
   obtain⟨σ3,H3,I3,n3⟩:=q3
   obtain⟨m',hm,w3⟩:=hN σ3 H3 n3
   exact⟨m',hm,σ3,H3,I3,w3⟩
  |cont =>
   obtain⟨σ3,H3,I3,n3⟩:=q3
   obtain⟨m',hm,w3⟩:=hN σ3 H3 n3
   exact⟨m',hm,σ3,H3,I3,w3⟩
  |brk=>exact q3
  |ret v=>exact q3
 |false =>
  rw[Ah Ix]
  exact O6 ⟨σ1,H2,I2,q2⟩
end
structure It where
 go:Nat->Hp->Prop
 yld:Nat->Hp->V->Hp->Prop
 stop:Nat->Hp->Prop
def FpOk(X:Cx)(pins:List (Addr×Obj))(H:Hp)(b:Addr):Prop :=
 H b=none/\b≠X.env.locals/\b∉X.fs/\(b∈X.ex\/X.s₀.heap.objs.size<=b)/\(∀x c,X.env.cells.lookup x=some c->c≠b)/\∀p∈X.pn++pins,p.1≠b
theorem Inv.fpOk{X:Cx}{pins:List (Addr×Obj)}{σ:St}{H H':Hp}{s:Shared}{b:Addr}(I:Inv X pins σ H s)(hb:s.heap.objs.size<=b)(hn:H' b=none):FpOk X pins H' b:=by
 refine⟨hn,Wo (Ig I.lt hb),I.nofs hb,.inr (Io I.sz hb),λx c e z=>?_,λp hp z=>?_⟩
 ·obtain⟨v,q⟩:=I.cell x c e
  exact absurd (Ig q.lt (by rw[z];exact hb)) (Uz _)
 ·exact absurd (Ig (A6 (I.pin p hp).1) (by rw[z];exact hb)) (Uz _)
structure Turn(P:Program)(w:World)(K:PySem.W.Frag)(tg:Expr)(J:It)(fp:List Addr)(it:Addr)(tn:Nat->Heap->Prop):Prop where
 mem:it∈fp
 obj:∀i h,tn i h->∀b∈fp,∃o,h.get? b=some o/\∀v,o.data≠.cell v
 keep:∀i h h',tn i h->(∀b∈fp,∀o,h.get? b=some o->h'.get? b=some o)->tn i h'
 item:∀(X:Cx),X.prog=P->X.w=w->X.K=K->X.calm=true->∀(i:Nat)(pins:List (Addr×Obj))(s:Shared)(σ:St)(H:Hp)(E:Value->Shared->Prop),Inv X pins σ H s->(∀b∈fp,FpOk X pins H b)->tn i s.heap->J.go i H ->
  wpAny (model P w) X.A (pyNext (.ref it)) (λr s1=>∃u,r=some u /\
   wpAny (model P w) X.A (letOwnedTupleGo tg (.ref it) u) (λ_ s2=>∃x H',Inv X pins σ H' s2/\RelV x u/\J.yld i H x H'/\tn (i+1) s2.heap/\∀b∈fp,H' b=none) E s1) E s
 done:∀(X:Cx),X.prog=P->X.w=w->X.K=K->X.calm=true->∀(i:Nat)(pins:List (Addr×Obj))(s:Shared)(σ:St)(H:Hp)(E:Value->Shared->Prop),Inv X pins σ H s->(∀b∈fp,FpOk X pins H b)->tn i s.heap->J.stop i H ->
  wpAny (model P w) X.A (pyNext (.ref it)) (λr s1=>r=none/\Inv X pins σ H s1) E s
 self:∀(A:Around)(i:Nat)(s:Shared)(Q:Value->Shared->Prop)(E:Value->Shared->Prop),tn i s.heap->Q (.ref it) s->wpAny (model P w) A (pyIter (.ref it)) Q E s
abbrev TI:=St->Hp->(It->Hp->Prop)->Prop
def PIE(X:Cx)(pins:List (Addr×Obj))(σ:St)(tg:Expr)(R:It->Hp->Prop)(itv:Value)(s2:Shared):Prop :=
 ∃(it:Addr)(fp:List Addr)(tn:Nat->Heap->Prop)(J:It)(H':Hp),itv=.ref it/\Inv X pins σ H' s2/\Turn X.prog X.w X.K tg J fp it tn/\tn 0 s2.heap/\(∀b∈fp,FpOk X pins H' b)/\R J H'
def PI(X:Cx)(tg iter:Expr)(wi:TI):Prop :=
 ∀(pins:List (Addr×Obj))(s:Shared)(σ:St)(H:Hp)(R:It->Hp->Prop),Inv X pins σ H s->wi σ H R ->
  wpAny (model X.prog X.w) X.A (eval iter X.env) (λv s1=>wpAny (model X.prog X.w) X.A (pyIter v) (PIE X pins σ tg R) X.xe s1) X.xe s
theorem jha{M:Model}{A:Around}{E:Value->Shared->Prop}{s:Shared}{tg:Expr}{it:Addr}{u:Value}{o:Obj}{n:String}{vs:Array Value}{Q:Unit->Shared->Prop}(ho:s.heap.get? it=some o)(hc:o.cls=.type n)(hd:o.data=.fields vs)
  (hn:["enumerate","zip","dict_itemiterator","dict_reverseitemiterator","odict_iterator","itertools.zip_longest","itertools.pairwise"].contains n=false) (hQ:Q () s):wpAny M A (letOwnedTupleGo tg (.ref it) u) Q E s:=by
 unfold letOwnedTupleGo
 cases tg <;> first
  |exact A5 hQ
  |(cases u <;> first
    |exact A5 hQ
    |(refine Ac (wpAny_load ho ?_)
      rw[hc,hd]
      show wpAny M A (if(["enumerate","zip","dict_itemiterator","dict_reverseitemiterator","odict_iterator","itertools.zip_longest","itertools.pairwise"].contains n && vs[0]? == some (rawInt _))=true then _ else _) Q E s
      rw[Ah (by intro h;rw[hn,Bool.false_and]at h;cases h)]
      exact A5 hQ))
def Itl(K:PySem.W.Frag)(a:Addr):It :=
 ⟨λi H=>∃xs x,SqL K H a xs/\xs[i]?=some x,λi H x H'=>H'=H/\∀xs,SqL K H a xs->xs[i]?=some x,λi H=>∃xs,SqL K H a xs/\xs.length<=i⟩
def Itt(K:PySem.W.Frag)(a:Addr):It :=
 ⟨λi H=>∃xs x,SqT K H a xs/\xs[i]?=some x,λi H x H'=>H'=H/\∀xs,SqT K H a xs->xs[i]?=some x,λi H=>∃xs,SqT K H a xs/\xs.length<=i⟩
def Itr(lo:Int)(n:Nat):It:=⟨λi _=>i<n,λi H x H'=>H'=H/\x=.int (lo+i),λi _=>n<=i⟩
theorem jmc{P:Program}{w:World}{K:PySem.W.Frag}{tg:Expr}(a it:Addr):Turn P w K tg (Itl K a) [it] it (λi h=>h.IsListIter it a i) where
 mem:=by simp
 obj:=λi h st b hb=>by
  have e:b=it:=by simpa using hb
  subst e
  obtain⟨o,e,c,d⟩:=st
  exact⟨o,e,λv z=>by rw[d]at z;cases z⟩
 keep:=λi h h' st k=>st.at λo e=>k it (by simp) o e
 item:=by
  intro X hP hw hK hc i pins s σ H E I hf st hg
  subst hP hw hK
  obtain⟨xs,x,hq,hx⟩:=hg
  obtain⟨its,rv,p,hz⟩:=I.list hq
  obtain⟨u,hu,ru⟩:=rv.get hx
  obtain⟨f0,f1,f2,f3,f4,f5⟩:=hf it (by simp)
  refine wpAny_pyNext_list_item st p.isList (x:=u) (by simpa using hu) λh' st' sb=>?_
  have I1:Inv X pins σ H {s with heap:=h'}:=I.turned (t':=s.toks) (λb o hb e=>(sb.2 b hb).trans e) f0 f1 f3 f4 f5
  obtain⟨o,e,c,d⟩:=id st'
  exact⟨u,rfl,jha (s:={s with heap:=h'}) e c d (by decide) ⟨x,H,I1,ru,⟨rfl,λys hy=>by rw[I.list_inj hy hq];exact hx⟩,st',λb hb=>(hf b hb).1⟩⟩
 done:=by
  intro X hP hw hK hc i pins s σ H E I hf st hg
  subst hP hw hK
  obtain⟨xs,hq,hx⟩:=hg
  obtain⟨its,rv,p,hz⟩:=I.list hq
  obtain⟨f0,f1,f2,f3,f4,f5⟩:=hf it (by simp)
  have hl:=rv.length
  exact wpAny_pyNext_list_end (I.ok.hd hc) st p.isList (by simp;omega) λh' eb=>⟨rfl,I.turned (t':=s.toks) (λb o hb e=>eb b o hb e) f0 f1 f3 f4 f5⟩
 self:=λ_ _ _ _ _ st h=>wpAny_pyIter_listiter st h
theorem jk5{P:Program}{w:World}{K:PySem.W.Frag}{tg:Expr}(a it:Addr):Turn P w K tg (Itt K a) [it] it (λi h=>h.IsTupleIter it a i) where
 mem:=by simp
 obj:=λi h st b hb=>by
  have e:b=it:=by simpa using hb
  subst e
  obtain⟨o,e,c,d⟩:=st
  exact⟨o,e,λv z=>by rw[d]at z;cases z⟩
 keep:=λi h h' st k=>st.at λo e=>k it (by simp) o e
 item:=by
  intro X hP hw hK hc i pins s σ H E I hf st hg
  subst hP hw hK
  obtain⟨xs,x,hq,hx⟩:=hg
  obtain⟨its,rv,p,hz⟩:=I.tuple hq
  obtain⟨u,hu,ru⟩:=rv.get hx
  obtain⟨f0,f1,f2,f3,f4,f5⟩:=hf it (by simp)
  refine wpAny_pyNext_tuple_item st (show s.heap.IsTuple a its.toArray from p) (x:=u) (by simpa using hu) λh' st' sb=>?_
  have I1:Inv X pins σ H {s with heap:=h'}:=I.turned (t':=s.toks) (λb o hb e=>(sb.2 b hb).trans e) f0 f1 f3 f4 f5
  obtain⟨o,e,c,d⟩:=id st'
  exact⟨u,rfl,jha (s:={s with heap:=h'}) e c d (by decide) ⟨x,H,I1,ru,⟨rfl,λys hy=>by rw[I.tuple_inj hy hq];exact hx⟩,st',λb hb=>(hf b hb).1⟩⟩
 done:=by
  intro X hP hw hK hc i pins s σ H E I hf st hg
  subst hP hw hK
  obtain⟨xs,hq,hx⟩:=hg
  obtain⟨its,rv,p,hz⟩:=I.tuple hq
  obtain⟨f0,f1,f2,f3,f4,f5⟩:=hf it (by simp)
  have hl:=rv.length
  exact wpAny_pyNext_tuple_end (I.ok.hd hc) st (show s.heap.IsTuple a its.toArray from p) (by simp;omega) λh' eb=>⟨rfl,I.turned (t':=s.toks) (λb o hb e=>eb b o hb e) f0 f1 f3 f4 f5⟩
 self:=λ_ _ _ _ _ st h=>wpAny_pyIter_tupleiter st h
theorem jk4{P:Program}{w:World}{K:PySem.W.Frag}{tg:Expr}(it:Addr)(lo:Int)(n:Nat):Turn P w K tg (Itr lo n) [it] it (λi h=>IsRangeIter h it (lo+(i:Nat)*1) ((n:Int)-(i:Nat)) 1) where
 mem:=by simp
 obj:=λi h st b hb=>by
  have e:b=it:=by simpa using hb
  subst e
  exact⟨_,st,λv z=>by
   have z':Data.fields _=Data.cell v:=z
   cases z'⟩
 keep:=λi h h' st k=>k it (by simp) _ st
 item:=by
  intro X hP hw hK hc i pins s σ H E I hf st hg
  subst hP hw hK
  obtain⟨f0,f1,f2,f3,f4,f5⟩:=hf it (by simp)
  have W:=Walks.range (prog:=X.prog) (w:=X.w) (I.ok.hd hc) it lo 1 n
  refine W.item i s _ _ hg st λv h' tk hv st' kk=>?_
  obtain⟨t,rfl⟩:=hv
  have I1:Inv X pins σ H {s with heap:=h',toks:=tk}:=I.turned (λb o hb e=>kk b o (by simpa using hb) e) f0 f1 f3 f4 f5
  refine⟨_,rfl,jha (s:={s with heap:=h',toks:=tk}) (n:="range_iterator") st' rfl rfl (by decide) ⟨.int (lo+i),H,I1,⟨t,?_⟩,⟨rfl,rfl⟩,st',λb hb=>(hf b hb).1⟩⟩
  rw[Int.mul_one]
 done:=by
  intro X hP hw hK hc i pins s σ H E I hf st hg
  subst hP hw hK
  obtain⟨f0,f1,f2,f3,f4,f5⟩:=hf it (by simp)
  exact wpAny_pyNext_range_end (I.ok.hd hc) st (by have:n<=i:=hg;omega) λh' eb=>⟨rfl,I.turned (t':=s.toks) (λb o hb e=>eb b o hb e) f0 f1 f3 f4 f5⟩
 self:=λ_ _ _ _ _ st h=>wpAny_pyIter_rangeiter st h
section
variable{X:Cx}{tg:Expr}
theorem jmu{pins:List (Addr×Obj)}{σ:St}{H:Hp}{s:Shared}{R:It->Hp->Prop}{E:Value->Shared->Prop}{lo hi:Int}{t u v:Tok}{tk:Nat}(I:Inv X pins σ H s)(h1:-(2^62)<=lo)(h2:lo<2^62)(h3:-(2^62)<=hi)(h4:hi<2^62)
  (q:R (Itr lo (hi-lo).toNat) H):wpAny (model X.prog X.w) X.A (pyIter (.ref s.heap.objs.size)) (PIE X pins σ tg R) E {s with heap:=s.heap.push {cls:=.type "range",data:=.fields #[.int lo t,.int hi u,.int 1 v]},toks:=tk}:=by
 refine wpAny_pyIter_range (IsRange.new ..) (small_one h1 h2 h3 h4) ?_
 have I1:Inv X pins σ H {s with heap:=s.heap.push {cls:=.type "range",data:=.fields #[.int lo t,.int hi u,.int 1 v]},toks:=tk}:=I.kept λb o e=>Ad _ e
 refine⟨(s.heap.push {cls:=.type "range",data:=.fields #[.int lo t,.int hi u,.int 1 v]}).objs.size,[(s.heap.push {cls:=.type "range",data:=.fields #[.int lo t,.int hi u,.int 1 v]}).objs.size],_,_,H,rfl,
  I1.kept (t':=tk) λb o e=>Ad _ e,jk4 _ lo (hi-lo).toNat,?_,λb hb=>?_,q⟩
 ·have e1:lo+((0:Nat):Int)*1=lo:=by simp
  have e2:(((hi-lo).toNat:Nat):Int)-((0:Nat):Int)=Builtin.Range.rangeSize lo hi 1:=by rw[rangeSize_one];split <;> omega
  show IsRangeIter _ _ (lo+((0:Nat):Int)*1) ((((hi-lo).toNat:Nat):Int)-((0:Nat):Int)) 1
  rw[e1,e2]
  exact Ir _ rfl
 ·have e:b=(s.heap.push {cls:=.type "range",data:=.fields #[.int lo t,.int hi u,.int 1 v]}).objs.size:=by simpa using hb
  subst e
  exact I1.fpOk (Al _) (I1.hok.fresh (Al _))
def jdb(ta:TA):TI:=λσ H R=>ta σ H λvs H1=>∃j:Int,vs=[.int j]/\-(2^62)<=j/\j<2^62/\R (Itr 0 j.toNat) H1
theorem pi_range1{a:Expr}{ta:TA}{p pos:Pos}(hg:Gl X "range")(hm:X.mg "range"=none)(ha:PA X [a] ta)(hs:starEach [a] X.env=[(false,eval a X.env)]:=by rfl):PI X tg (.Call (.Name "range" p) [a] [] pos) (jdb ta):=by
 intro pins s σ H R I h
 refine Call_ (jhe I hg hm boot_range (U9 (thn (ha pos pins s σ H _ I h) λus s1 ⟨vs,H1,I1,r1,q1⟩=>?_) hs rfl))
 obtain⟨j,e,q1,q2,q⟩:=q1
 subst e
 cases r1 with
 |cons r rr =>
  cases rr
  obtain⟨t,rfl⟩:=r
  exact call_range_1 (jmu I1 (by omega) (by omega) q1 q2 (by simpa using q))
def tFor(wi:TI)(g:TG)(tb:TS):TS:=λD σ H=>wi σ H λJ H1=>∃W:Nat->Nat->St->Hp->Prop,(∃m,W 0 m σ H1)/\∀i m σ H,W i m σ H ->
 (J.stop i H/\D.nx σ H)\/(J.go i H/\∃N:St->Hp->Prop,(∀σ' H',N σ' H'->∃m',m'<m/\W (i+1) m' σ' H')/\∀x H',J.yld i H x H'->g x σ H' λσ2 H2=>tb {D with nx:=N,ct:=N,bk:=D.nx} σ2 H2)
def jf1(fp:List Addr)(h:Heap):List (Addr×Obj):=fp.filterMap λb=>(h.get? b).map λo=>(b,o)
theorem jer{fp:List Addr}{h:Heap}{b:Addr}{o:Obj}(hb:b∈fp)(e:h.get? b=some o):(b,o)∈jf1 fp h:=List.mem_filterMap.mpr ⟨b,hb,by rw[e];rfl⟩
theorem jlw{fp:List Addr}{h:Heap}{p:Addr×Obj}(hp:p∈jf1 fp h):p.1∈fp/\h.get? p.1=some p.2:=by
 obtain⟨b,hb,e⟩:=List.mem_filterMap.mp hp
 cases q:h.get? b with
 |none=>rw[q]at e;cases e
 |some o =>
  rw[q]at e
  have e':(b,o)=p:=A7 e
  subst e'
  exact⟨hb,q⟩
theorem Inv.pinned{pins:List (Addr×Obj)}{σ:St}{H:Hp}{s:Shared}{fp:List Addr}(I:Inv X pins σ H s)(hf:∀b∈fp,FpOk X pins H b)(ho:∀b∈fp,∃o,s.heap.get? b=some o/\∀v,o.data≠.cell v):Inv X (pins++jf1 fp s.heap) σ H s :=
 I.pins_of λp hp=>(A0.mp hp).elim (λz=>I.pin p (A2 _ z)) λz=>by
  obtain⟨hb,e⟩:=jlw z
  obtain⟨f0,f1,f2,_⟩:=hf p.1 hb
  obtain⟨o,e',d⟩:=ho p.1 hb
  rw[e]at e';cases e'
  exact⟨e,f0,f1,f2,d⟩
theorem Inv.unpinned{pins pl:List (Addr×Obj)}{σ:St}{H:Hp}{s:Shared}(I:Inv X (pins++pl) σ H s):Inv X pins σ H s:=I.pins_of λp hp=>I.pin p (A2 _ (Im _ hp))
theorem ps_for{iter:Expr}{body:List Stmt}{wi:TI}{g:TG}{tb:TS}{pos:Pos}(hp:PassesOwn (model X.prog X.w) X.A X.env X.xe)(hc:X.calm=true)(hi:PI X tg iter wi)(hg:PG X tg g)(hb:PSs X body tb)
  (hs:∀x,foldedSetIterable iter X.env x=pure x:=by intro _;rfl):PS X (.For tg iter body [] pos) (tFor wi g tb):=by
 intro pins s σ H D I h
 refine wpAny_For (thn (hi pins s σ H _ I h) λv s1 h1=>thn h1 λitv s2 h2=>?_) hs
 obtain⟨it,fp,tn,J,H2,e,I2,T,st2,f2,W,⟨m0,w0⟩,turn⟩:=h2
 subst e
 have stat:∀{H':Hp},(∀b∈fp,H' b=none)->∀b∈fp,FpOk X pins H' b:=λhn b hb=>⟨hn b hb,(f2 b hb).2⟩
 refine codeAny_forLoop_any (λn s'=>∃i σ' H',Inv X pins σ' H' s'/\tn i s'.heap/\(∀b∈fp,H' b=none)/\W i n σ' H') ?_ m0 ⟨0,σ,H2,I2,st2,λb hb=>(f2 b hb).1,w0⟩
 rintro n s3 ⟨i,σ3,H3,I3,st3,fr3,w3⟩
 rcases turn i n σ3 H3 w3 with⟨stop,qn⟩|⟨go,N,hN,step⟩
 ·refine Uo hp (thn (T.done X rfl rfl rfl hc i pins s3 σ3 H3 X.xe I3 (stat fr3) st3 stop) λr s4 ⟨hr,I4⟩=>?_)
  subst hr
  exact O6 ⟨σ3,H3,I4,qn⟩
 ·refine Uo hp (thn (T.item X rfl rfl rfl hc i pins s3 σ3 H3 X.xe I3 (stat fr3) st3 go) λr s4 ⟨u,hr,h4⟩=>?_)
  subst hr
  refine Uo hp (thn h4 λ_ s5 ⟨x,H5,I5,r5,y5,st5,fr5⟩=>?_)
  have I5':=I5.pinned (stat fr5) (T.obj _ _ st5)
  refine Uo hp (thn (hg _ s5 σ3 H5 x u _ I5' r5 (step x H5 y5)) λ_ s6 ⟨σ6,H6,I6,q6⟩=>?_)
  refine Uo hp (thn (hb _ s6 σ6 H6 _ I6 q6) λf s7 q7=>?_)
  have again:∀{σ7:St}{H7:Hp},Inv X (pins++jf1 fp s5.heap) σ7 H7 s7->N σ7 H7->∃m,m<n/\∃i σ' H',Inv X pins σ' H' s7/\tn i s7.heap/\(∀b∈fp,H' b=none)/\W i m σ' H':=fun{σ7 H7} I7 n7=>by
   obtain⟨m',hm,w7⟩:=hN σ7 H7 n7
   refine⟨m',hm,i+1,σ7,H7,I7.unpinned,T.keep _ _ _ st5 λb hb o e=>(I7.pin (b,o) (A2 _ (A2 _ (jer hb e)))).1,λb hb=>?_,w7⟩
   obtain⟨o,e,d⟩:=T.obj _ _ st5 b hb
   exact(I7.pin (b,o) (A2 _ (A2 _ (jer hb e)))).2.1
  cases f with
  |next=>obtain⟨σ7,H7,I7,n7⟩:=q7;exact again I7 n7
  |cont=>obtain⟨σ7,H7,I7,n7⟩:=q7;exact again I7 n7
  |brk=>obtain⟨σ7,H7,I7,q7⟩:=q7;exact⟨σ7,H7,I7.unpinned,q7⟩
  |ret v=>obtain⟨x7,σ7,H7,I7,r7,q7⟩:=q7;exact⟨x7,σ7,H7,I7.unpinned,r7,q7⟩
end
theorem jml{K:PySem.W.Frag}{a:Addr}{xs:List V}{g:TG}{tb:TS}{D:Ends}{σ:St}{H:Hp}(Pv:Nat->St->Hp->Prop)(h0:Pv 0 σ H)(hl:∀i σ H,i<=xs.length->Pv i σ H->SqL K H a xs)
  (hs:∀i x σ H,xs[i]?=some x->Pv i σ H->g x σ H λσ2 H2=>tb {D with nx:=Pv (i+1),ct:=Pv (i+1),bk:=D.nx} σ2 H2) (hd:∀σ H,Pv xs.length σ H->D.nx σ H) :
  ∃W:Nat->Nat->St->Hp->Prop,(∃m,W 0 m σ H)/\∀i m σ H,W i m σ H ->
   ((Itl K a).stop i H/\D.nx σ H)\/((Itl K a).go i H/\∃N:St->Hp->Prop,(∀σ' H',N σ' H'->∃m',m'<m/\W (i+1) m' σ' H')/\∀x H',(Itl K a).yld i H x H'->g x σ H' λσ2 H2=>tb {D with nx:=N,ct:=N,bk:=D.nx} σ2 H2):=by
 refine⟨λi m σ H=>m=xs.length-i/\i<=xs.length/\Pv i σ H,⟨xs.length,by simp,O8 _,h0⟩,?_⟩
 rintro i m σ H ⟨rfl,hi,p⟩
 have q:=hl i σ H hi p
 by_cases hlt:i<xs.length
 ·refine .inr ⟨⟨xs,xs[i],q,by simp[hlt]⟩,Pv (i+1),λσ' H' p'=>⟨xs.length-(i+1),by omega,rfl,hlt,p'⟩,λx H' y=>?_⟩
  obtain⟨e,y⟩:=y
  subst e
  exact hs i x σ _ (y xs q) p
 ·have e:i=xs.length:=by omega
  subst e
  exact .inl ⟨⟨xs,q,Al _⟩,hd σ H p⟩
theorem jnm{K:PySem.W.Frag}{a:Addr}{xs:List V}{g:TG}{tb:TS}{D:Ends}{σ:St}{H:Hp}(Pv:Nat->St->Hp->Prop)(h0:Pv 0 σ H)(hl:∀i σ H,i<=xs.length->Pv i σ H->SqT K H a xs)
  (hs:∀i x σ H,xs[i]?=some x->Pv i σ H->g x σ H λσ2 H2=>tb {D with nx:=Pv (i+1),ct:=Pv (i+1),bk:=D.nx} σ2 H2) (hd:∀σ H,Pv xs.length σ H->D.nx σ H) :
  ∃W:Nat->Nat->St->Hp->Prop,(∃m,W 0 m σ H)/\∀i m σ H,W i m σ H ->
   ((Itt K a).stop i H/\D.nx σ H)\/((Itt K a).go i H/\∃N:St->Hp->Prop,(∀σ' H',N σ' H'->∃m',m'<m/\W (i+1) m' σ' H')/\∀x H',(Itt K a).yld i H x H'->g x σ H' λσ2 H2=>tb {D with nx:=N,ct:=N,bk:=D.nx} σ2 H2):=by
 refine⟨λi m σ H=>m=xs.length-i/\i<=xs.length/\Pv i σ H,⟨xs.length,by simp,O8 _,h0⟩,?_⟩
 rintro i m σ H ⟨rfl,hi,p⟩
 have q:=hl i σ H hi p
 by_cases hlt:i<xs.length
 ·refine .inr ⟨⟨xs,xs[i],q,by simp[hlt]⟩,Pv (i+1),λσ' H' p'=>⟨xs.length-(i+1),by omega,rfl,hlt,p'⟩,λx H' y=>?_⟩
  obtain⟨e,y⟩:=y
  subst e
  exact hs i x σ _ (y xs q) p
 ·have e:i=xs.length:=by omega
  subst e
  exact .inl ⟨⟨xs,q,Al _⟩,hd σ H p⟩
theorem jlj{lo:Int}{n:Nat}{g:TG}{tb:TS}{D:Ends}{σ:St}{H:Hp}(Pv:Nat->St->Hp->Prop)(h0:Pv 0 σ H)
  (hs:∀i σ H,i<n->Pv i σ H->g (.int (lo+i)) σ H λσ2 H2=>tb {D with nx:=Pv (i+1),ct:=Pv (i+1),bk:=D.nx} σ2 H2) (hd:∀σ H,Pv n σ H->D.nx σ H) :
  ∃W:Nat->Nat->St->Hp->Prop,(∃m,W 0 m σ H)/\∀i m σ H,W i m σ H ->
   ((Itr lo n).stop i H/\D.nx σ H)\/((Itr lo n).go i H/\∃N:St->Hp->Prop,(∀σ' H',N σ' H'->∃m',m'<m/\W (i+1) m' σ' H')/\∀x H',(Itr lo n).yld i H x H'->g x σ H' λσ2 H2=>tb {D with nx:=N,ct:=N,bk:=D.nx} σ2 H2):=by
 refine⟨λi m σ H=>m=n-i/\i<=n/\Pv i σ H,⟨n,by simp,O8 _,h0⟩,?_⟩
 rintro i m σ H ⟨rfl,hi,p⟩
 by_cases hlt:i<n
 ·refine .inr ⟨hlt,Pv (i+1),λσ' H' p'=>⟨n-(i+1),by omega,rfl,hlt,p'⟩,λx H' y=>?_⟩
  obtain⟨e,y⟩:=y
  subst e y
  exact hs i σ _ hlt p
 ·have e:i=n:=by omega
  subst e
  exact .inl ⟨Al _,hd σ H p⟩
abbrev R2:=V->V->Hp->VK->Prop
def OpR(X:Cx)(f:Value->Value->Sem Value)(r:R2):Prop :=
 ∀(pins:List (Addr×Obj))(s:Shared)(σ:St)(H:Hp)(x y:V)(v u:Value)(Q:VK),Inv X pins σ H s->RelV x v->RelV y u->r x y H Q ->
  wpAny (model X.prog X.w) X.A (f v u) (EP X pins σ Q) X.xe s
def jeb(X:Cx)(f:Value)(r:List V->Hp->VK->Prop):Prop :=
 ∀(pins:List (Addr×Obj))(s:Shared)(σ:St)(H:Hp)(xs:List V)(us:List Value)(Q:VK),Inv X pins σ H s->Vals xs us->r xs H Q ->
  wpAny (model X.prog X.w) X.A (call f us) (EP X pins σ Q) X.xe s
def tOp(r:R2)(ta tb:TE):TE:=λσ H Q=>ta σ H λx H1=>tb σ H1 λy H2=>r x y H2 Q
def rI(C:Int->Int->Prop)(g:Int->Int->V):R2:=λx y H Q=>∃i j,x=.int i/\y=.int j/\C i j/\Q (g i j) H
def rI0(g:Int->Int->V):R2:=λx y H Q=>∃i j,x=.int i/\y=.int j/\Q (g i j) H
section
variable{X:Cx}{a b c:Expr}{ta tb tc:TE}{pos:Pos}
theorem binT(ha:PE X a ta)(hb:PE X b tb){pins:List (Addr×Obj)}{s:Shared}{σ:St}{H:Hp}{R:V->V->Hp->Prop}(I:Inv X pins σ H s)
  (h:ta σ H λx H1=>tb σ H1 λy H2=>R x y H2) {Q:Value->Shared->Prop}{f:Value->Value->Sem Value}
  (hf:∀v u s2 x y H2,Inv X pins σ H2 s2->RelV x v->RelV y u->R x y H2->wpAny (model X.prog X.w) X.A (f v u) Q X.xe s2) :
  wpAny (model X.prog X.w) X.A (eval a X.env) (λv s₁=>wpAny (model X.prog X.w) X.A (eval b X.env) (λu s₂=>wpAny (model X.prog X.w) X.A (f v u) Q X.xe s₂) X.xe s₁) X.xe s:=by
 refine thn (ha pins s σ H _ I h) λv s1 ⟨x,H1,I1,r1,q1⟩=>?_
 refine thn (hb pins s1 σ H1 _ I1 q1) λu s2 ⟨y,H2,I2,r2,q2⟩=>?_
 exact hf v u s2 x y H2 I2 r1 r2 q2
theorem pe_op{op:Operator}{r:R2}(ho:OpR X (binaryOp op) r)(ha:PE X a ta)(hb:PE X b tb):PE X (.BinOp a op b pos) (tOp r ta tb):=by
 intro pins s σ H Q I h
 exact wpAny_BinOp (binT ha hb I h λv u s2 x y H2 I2 rx ry q=>ho pins s2 σ H2 x y v u Q I2 rx ry q)
theorem opI{f:Value->Value->Sem Value}{C:Int->Int->Prop}{g:Int->Int->Int}
  (rule:∀(i j:Int)(t u:Tok)(s:Shared)(Q:Value->Shared->Prop)(E:Value->Shared->Prop),C i j->Q (.int (g i j) s.toks) {s with toks:=s.toks+1}->wpAny (model X.prog X.w) X.A (f (.int i t) (.int j u)) Q E s) :
  OpR X f (rI C λi j=>.int (g i j)):=by
 intro pins s σ H x y v u Q I rx ry h
 obtain⟨i,j,rfl,rfl,hc,q⟩:=h
 obtain⟨t,rfl⟩:=rx
 obtain⟨t',rfl⟩:=ry
 exact rule i j t t' s _ _ hc ⟨.int (g i j),H,I.tok _,⟨_,rfl⟩,q⟩
theorem opI0{f:Value->Value->Sem Value}{g:Int->Int->Int}
  (rule:∀(i j:Int)(t u:Tok)(s:Shared)(Q:Value->Shared->Prop)(E:Value->Shared->Prop),Q (.int (g i j) s.toks) {s with toks:=s.toks+1}->wpAny (model X.prog X.w) X.A (f (.int i t) (.int j u)) Q E s) :
  OpR X f (rI0 λi j=>.int (g i j)):=by
 intro pins s σ H x y v u Q I rx ry h
 obtain⟨i,j,rfl,rfl,q⟩:=h
 obtain⟨t,rfl⟩:=rx
 obtain⟨t',rfl⟩:=ry
 exact rule i j t t' s _ _ ⟨.int (g i j),H,I.tok _,⟨_,rfl⟩,q⟩
theorem opB0{f:Value->Value->Sem Value}{g:Int->Int->Bool}
  (rule:∀(i j:Int)(t u:Tok)(s:Shared)(Q:Value->Shared->Prop)(E:Value->Shared->Prop),Q (.bool (g i j)) s->wpAny (model X.prog X.w) X.A (f (.int i t) (.int j u)) Q E s) :
  OpR X f (rI0 λi j=>.bl (g i j)):=by
 intro pins s σ H x y v u Q I rx ry h
 obtain⟨i,j,rfl,rfl,q⟩:=h
 obtain⟨t,rfl⟩:=rx
 obtain⟨t',rfl⟩:=ry
 exact rule i j t t' s _ _ ⟨.bl (g i j),H,I,rfl,q⟩
def CDiv(i j:Int):Prop:=0<j/\j<1073741824
def CPow(i j:Int):Prop:=0<=j/\j<=1000000/\i.natAbs<2^64
def CMul(i j:Int):Prop:=(-(2^64)<i/\i<2^64)\/(-(2^64)<j/\j<2^64)
theorem CMul.ok{i j:Int}(h:CMul i j):IntMulOk i j:=by
 rcases h with⟨h1,h2⟩|⟨h1,h2⟩
 ·exact .of_left (intBits_le_64 h1 h2)
 ·exact .of_right (intBits_le_64 h1 h2)
theorem op_add:OpR X (binaryOp .Add) (rI0 λi j=>.int (i+j)):=opI0 λ_ _ _ _ _ _ _ q=>add_int q
theorem jbw:OpR X (binaryOp .Sub) (rI0 λi j=>.int (i-j)):=opI0 λ_ _ _ _ _ _ _ q=>sub_int q
theorem op_mul:OpR X (binaryOp .Mult) (rI CMul λi j=>.int (i*j)):=opI λ_ _ _ _ _ _ _ hc q=>mul_int q hc.ok
theorem jbs:OpR X (binaryOp .FloorDiv) (rI CDiv λi j=>.int (i / j)):=opI λi j _ _ _ _ _ hc q=>by
 have h1:(0:Int)<j:=hc.1
 have h2:j<1073741824:=hc.2
 exact floordiv_int (by omega) (by rw[Int.fdiv_eq_ediv_of_nonneg i (by omega)];exact q) (.inl (PyProof.noPylong_small (by omega)))
theorem zu:OpR X (binaryOp .Mod) (rI (λ_ j=>0<j) λi j=>.int (i%j)):=opI λi j _ _ _ _ _ hc q=>by
 have h1:(0:Int)<j:=hc
 exact mod_int' (by omega) (by rw[Int.fmod_eq_emod_of_nonneg i (by omega)];exact q)
theorem op_pow:OpR X (binaryOp .Pow) (rI CPow λi j=>.int (i^j.toNat)):=opI λ_ _ _ _ _ _ _ hc q=>pow_int_small hc.1 hc.2.1 hc.2.2 q
end
def scal:V->V->Bool
 |.non,.non=>true|.non,.int _=>true|.int _,.non=>true|.non,.bl _=>true|.bl _,.non=>true|.non,.str _=>true|.str _,.non=>true
 |.int _,.int _=>true|.bl _,.bl _=>true|.str _,.str _=>true|.byt _,.byt _=>true
 |.int _,.str _=>true|.str _,.int _=>true|.bl _,.str _=>true|.str _,.bl _=>true
 |_,_=>false
def rEq:R2:=λx y H Q=>scal x y=true/\Q (.bl (decide (x=y))) H
def rNe:R2:=λx y H Q=>scal x y=true/\Q (.bl (!decide (x=y))) H
theorem jj4{i j:Int}:decide (V.int i=V.int j)=(i == j):=by
 rw[W7]
 simp
theorem jlh{i j:Bool}:decide (V.bl i=V.bl j)=(i == j):=by
 rw[W7]
 simp
theorem jj5{i j:Str}:decide (V.str i=V.str j)=(i == j):=by
 rw[W7]
 simp
theorem jj3{i j:Array UInt8}:decide (V.byt i=V.byt j)=(i.toList == j.toList):=by
 rw[W7]
 cases i
 cases j
 simp
section
variable{X:Cx}{a b c:Expr}{ta tb tc:TE}{pos:Pos}
theorem jds{pins:List (Addr×Obj)}{σ:St}{H:Hp}{s:Shared}{Q:VK}{k k':Bool}(I:Inv X pins σ H s)(q:Q (.bl k) H)(e:k=k'):EP X pins σ Q (.bool k') s:=by
 subst e
 exact⟨.bl k,H,I,rfl,q⟩
theorem jbh:OpR X (compareOp .Eq) rEq:=by
 intro pins s σ H x y v u Q I rx ry h
 obtain⟨hs,q⟩:=h
 cases x with
 |non =>
  cases rx
  cases y with
  |non=>cases ry;exact PySem.EqNone.eq_none_none (jds I q (by simp))
  |bl j=>cases ry;exact PySem.EqNone.eq_none_bool (jds I q (by simp))
  |int j=>obtain⟨t',rfl⟩:=ry;exact PySem.EqNone.eq_none_int (jds I q (by simp))
  |str j=>obtain⟨t',rfl⟩:=ry;exact PySem.EqNone.eq_none_str (jds I q (by simp))
  |_=>exact absurd (show false=true from hs) Ix
 |bl i =>
  cases rx
  cases y with
  |non=>cases ry;exact PySem.EqNone.eq_bool_none (jds I q (by simp))
  |bl j=>cases ry;exact eq_bool (jds I q jlh)
  |str j=>obtain⟨t',rfl⟩:=ry;exact PySem.EqMixed.eq_bool_str (jds I q (by simp))
  |_=>exact absurd (show false=true from hs) Ix
 |int i =>
  obtain⟨t,rfl⟩:=rx
  cases y with
  |non=>cases ry;exact PySem.EqNone.eq_int_none (jds I q (by simp))
  |int j=>obtain⟨t',rfl⟩:=ry;exact eq_int (jds I q jj4)
  |str j=>obtain⟨t',rfl⟩:=ry;exact PySem.EqMixed.eq_int_str (jds I q (by simp))
  |_=>exact absurd (show false=true from hs) Ix
 |str i =>
  obtain⟨t,rfl⟩:=rx
  cases y with
  |non=>cases ry;exact PySem.EqNone.eq_str_none (jds I q (by simp))
  |bl j=>cases ry;exact PySem.EqMixed.eq_str_bool (jds I q (by simp))
  |int j=>obtain⟨t',rfl⟩:=ry;exact PySem.EqMixed.eq_str_int (jds I q (by simp))
  |str j=>obtain⟨t',rfl⟩:=ry;exact eq_str (jds I q jj5)
  |_=>exact absurd (show false=true from hs) Ix
 |byt i =>
  obtain⟨t,rfl⟩:=rx
  cases y with
  |byt j=>obtain⟨t',rfl⟩:=ry;exact PySem.W.eq_bytes (jds I q jj3)
  |_=>exact absurd (show false=true from hs) Ix
 |_=>cases y <;> exact absurd (show false=true from hs) Ix
theorem jbi:OpR X (compareOp .NotEq) rNe:=by
 intro pins s σ H x y v u Q I rx ry h
 obtain⟨hs,q⟩:=h
 cases x with
 |non =>
  cases rx
  cases y with
  |non=>cases ry;exact PySem.EqNone.ne_none_none (jds I q (by simp))
  |bl j=>cases ry;exact PySem.EqNone.ne_none_bool (jds I q (by simp))
  |int j=>obtain⟨t',rfl⟩:=ry;exact PySem.EqNone.ne_none_int (jds I q (by simp))
  |str j=>obtain⟨t',rfl⟩:=ry;exact PySem.EqNone.ne_none_str (jds I q (by simp))
  |_=>exact absurd (show false=true from hs) Ix
 |bl i =>
  cases rx
  cases y with
  |non=>cases ry;exact PySem.EqNone.ne_bool_none (jds I q (by simp))
  |bl j=>cases ry;exact ne_bool (jds I q (Uh not jlh))
  |str j=>obtain⟨t',rfl⟩:=ry;exact PySem.EqMixed.ne_bool_str (jds I q (by simp))
  |_=>exact absurd (show false=true from hs) Ix
 |int i =>
  obtain⟨t,rfl⟩:=rx
  cases y with
  |non=>cases ry;exact PySem.EqNone.ne_int_none (jds I q (by simp))
  |int j=>obtain⟨t',rfl⟩:=ry;exact ne_int (jds I q (Uh not jj4))
  |str j=>obtain⟨t',rfl⟩:=ry;exact PySem.EqMixed.ne_int_str (jds I q (by simp))
  |_=>exact absurd (show false=true from hs) Ix
 |str i =>
  obtain⟨t,rfl⟩:=rx
  cases y with
  |non=>cases ry;exact PySem.EqNone.ne_str_none (jds I q (by simp))
  |bl j=>cases ry;exact PySem.EqMixed.ne_str_bool (jds I q (by simp))
  |int j=>obtain⟨t',rfl⟩:=ry;exact PySem.EqMixed.ne_str_int (jds I q (by simp))
  |str j=>obtain⟨t',rfl⟩:=ry;exact ne_str (jds I q (Uh not jj5))
  |_=>exact absurd (show false=true from hs) Ix
 |byt i =>
  obtain⟨t,rfl⟩:=rx
  cases y with
  |byt j=>obtain⟨t',rfl⟩:=ry;exact PySem.W.ne_bytes (jds I q (Uh not jj3))
  |_=>exact absurd (show false=true from hs) Ix
 |_=>cases y <;> exact absurd (show false=true from hs) Ix
theorem op_lt:OpR X (compareOp .Lt) (rI0 λi j=>.bl (decide (i<j))):=opB0 λ_ _ _ _ _ _ _ q=>lt_int q
theorem jbv:OpR X (compareOp .Gt) (rI0 λi j=>.bl (decide (j<i))):=opB0 λ_ _ _ _ _ _ _ q=>gt_int q
theorem op_ge:OpR X (compareOp .GtE) (rI0 λi j=>.bl (decide (j<=i))):=opB0 λ_ _ _ _ _ _ _ q=>ge_int q
theorem op_lt_str:OpR X (compareOp .Lt) (λx y H Q=>∃i j,x=.str i/\y=.str j/\Q (.bl (decide (i.cps.toList<j.cps.toList))) H):=by
 intro pins s σ H x y v u Q I rx ry h
 obtain⟨i,j,rfl,rfl,q⟩:=h
 obtain⟨t,rfl⟩:=rx
 obtain⟨t',rfl⟩:=ry
 exact lt_str (jds I q rfl)
theorem op_notN:OpR X (compareOp .IsNot) (λx y H Q=>y=.non/\Q (.bl (!decide (x=.non))) H):=by
 intro pins s σ H x y v u Q I rx ry h
 obtain⟨rfl,q⟩:=h
 cases ry
 refine isnot_none_gen (jds I q ?_)
 cases x <;> first
  |(cases rx;rfl)
  |(obtain⟨t,rfl⟩:=rx;rfl)
theorem jz(b:Expr){op:CmpOp}(h:op≠.In:=by decide)(h2:op≠.NotIn:=by decide):behindInMarks op b=false:=by
 have e1:(op == CmpOp.In)=false:=by cases op <;> first|rfl|exact absurd rfl h
 have e2:(op == CmpOp.NotIn)=false:=by cases op <;> first|rfl|exact absurd rfl h2
 cases b <;> simp[behindInMarks,e1,e2]
theorem pe_cmpR{op:CmpOp}{r:R2}(ho:OpR X (compareOp op) r)(ha:PE X a ta)(hb:PE X b tb)(hm:behindInMarks op b=false):PE X (.Compare a [op] [b] pos) (tOp r ta tb):=by
 intro pins s σ H Q I h
 exact wpAny_Compare1 (binT ha hb I h λv u s2 x y H2 I2 rx ry q=>ho pins s2 σ H2 x y v u Q I2 rx ry q) hm
def jdl(t:TE):TT:=λσ H Q=>t σ H λx H'=>∃k,x=.bl k/\Q k H'
theorem pt_cmpR{op:CmpOp}{r:R2}(ho:OpR X (compareOp op) r)(ha:PE X a ta)(hb:PE X b tb)(hm:behindInMarks op b=false):PT X (.Compare a [op] [b] pos) (jdl (tOp r ta tb)):=by
 intro pins s σ H Q I h
 refine wpAny_isTrue_Compare1 (thn (ha pins s σ H _ I h) λv s1 ⟨x,H1,I1,r1,q1⟩=>thn (hb pins s1 σ H1 _ I1 q1) λu s2 ⟨y,H2,I2,r2,q2⟩ =>
  thn (ho pins s2 σ H2 x y v u _ I2 r1 r2 q2) λc s3 ⟨z,H3,I3,r3,k,e,q3⟩=>?_) hm
 subst e
 cases r3
 exact U3 ⟨H3,I3,q3⟩
theorem jfm:(sizeLine:Nat)<2^63:=by rw[sizeLine_eq];decide
theorem op_add_str:OpR X (binaryOp .Add) (λx y H Q=>∃i j,x=.str i/\y=.str j/\i.length+j.length<=sizeLine/\Q (.str (i++j)) H):=by
 intro pins s σ H x y v u Q I rx ry h
 obtain⟨i,j,rfl,rfl,hz,q⟩:=h
 obtain⟨t,rfl⟩:=rx
 obtain⟨t',rfl⟩:=ry
 exact add_str (λt' tk=>⟨.str (i++j),H,I.tok _,⟨_,rfl⟩,q⟩) hz
theorem jet{x:V}{us:List Value}(r:Vals [x] us):∃u,us=[u]/\RelV x u:=by
 cases r with
 |cons r1 r2=>cases r2;exact⟨_,rfl,r1⟩
theorem jiu{x y:V}{us:List Value}(r:Vals [x,y] us):∃u w',us=[u,w']/\RelV x u/\RelV y w':=by
 cases r with
 |cons r1 r2 =>
  cases r2 with
  |cons r3 r4=>cases r4;exact⟨_,_,rfl,r1,r3⟩
theorem call_max2(hc:X.calm=true):jeb X (.builtin "max") (λxs H Q=>∃i j,xs=[.int i,.int j]/\Q (.int (if j>i then j else i)) H):=by
 intro pins s σ H xs us Q I r h
 obtain⟨i,j,rfl,q⟩:=h
 obtain⟨u,w',rfl,⟨t,rfl⟩,⟨t',rfl⟩⟩:=jiu r
 refine max_two_ints (I.ok.hd hc) λh' tk k=>⟨_,H,I.kept k,?_,q⟩
 by_cases hj:j>i
 ·rw[Am hj,Am hj];exact⟨_,rfl⟩
 ·rw[Ah hj,Ah hj];exact⟨_,rfl⟩
theorem jbe:jeb X (.type "int") (λxs H Q=>(∃i,xs=[.int i]/\Q (.int i) H)\/∃k,xs=[.bl k]/\Q (.int (if k then 1 else 0)) H):=by
 intro pins s σ H xs us Q I r h
 rcases h with⟨i,rfl,q⟩|⟨k,rfl,q⟩
 ·obtain⟨u,rfl,t,rfl⟩:=jet r
  exact call_int_int ⟨.int i,H,I,⟨_,rfl⟩,q⟩
 ·obtain⟨u,rfl,r1⟩:=jet r
  cases r1
  exact call_int_bool ⟨.int (if k then 1 else 0),H,I.tok _,⟨_,rfl⟩,q⟩
end
theorem RelO.some_of{v:V}{o:Option Value}(r:RelO (some v) o):∃u,o=some u/\RelV v u:=by
 cases o with
 |none=>exact(show False from r).elim
 |some u=>exact⟨u,rfl,r⟩
structure Room(k:Nat)(A:Around):Prop where
 hd:A.handled=none
 dp:A.depth+3*k+5<recursionLimit
 un:A.units+16*k+200<cLine
 gd:A.guards=some []
theorem Room.mono{j k:Nat}{A:Around}(r:Room k A)(h:j<=k):Room j A:=⟨r.hd,by have:=r.dp;omega,by have:=r.un;omega,r.gd⟩
theorem Room.deeper{k:Nat}{A:Around}(r:Room (k+1) A)(env:Env):Room k (A.deeper env) :=
 ⟨r.hd,by have:=r.dp;show A.depth+1+3*k+5<_;omega,by have:=r.un;show A.units+3+16*k+200<_;omega,r.gd⟩
theorem Room.depth{k:Nat}{A:Around}(r:Room k A):A.depth<recursionLimit:=by have:=r.dp;omega
theorem Room.units{k:Nat}{A:Around}(r:Room k A):A.units+64<cLine:=by have:=r.un;omega
def tNil:TA:=λ_ H Q=>Q [] H
def jde(ta:TE)(tr:TA):TA:=λσ H Q=>ta σ H λx H1=>tr σ H1 λxs H2=>Q (x::xs) H2
section
variable{X:Cx}{e:Expr}{es:List Expr}{te:TE}{t:TA}{pos:Pos}
theorem pa_nil:PA X [] tNil:=λ_ _ _ _ H Q I h=>Calls.spliced_nil ⟨[],H,I,.nil,h⟩
theorem pa_cons(ha:PE X e te)(hr:PA X es t)(hs:starEach (e::es) X.env=(false,eval e X.env)::starEach es X.env:=by rfl):PA X (e::es) (jde te t):=by
 intro pos pins s σ H Q I h
 rw[hs]
 show wpAny _ _ (spliced ((false,eval e X.env)::backTo pos (starEach es X.env))) _ _ s
 refine Calls.spliced_cons (thn (ha pins s σ H _ I h) λu s1 ⟨x,H1,I1,r1,q1⟩=>?_)
 exact thn (hr pos pins s1 σ H1 _ I1 q1) λus s2 ⟨xs,H2,I2,r2,q2⟩=>⟨x::xs,H2,I2,.cons r1 r2,q2⟩
def tTup(t:TA):TE:=λσ H Q=>t σ H λxs H1=>xs.length<=sizeLine/\∀p,H1 p=none->Q (.ref p) (upd H1 p (.tup xs))
def tLst(t:TA):TE:=λσ H Q=>t σ H λxs H1=>xs.length<=sizeLine/\∀p,H1 p=none->Q (.ref p) (upd H1 p (.lst xs))
theorem pe_tup{x1}(h:PA X es t):PE X (.Tuple es x1 pos) (tTup t):=by
 intro pins s σ H Q I hq
 refine wpAny_Tuple_spliced (thn (h pos pins s σ H _ I hq) λus s1 ⟨xs,H1,I1,r,z,q⟩=>⟨by rw[<-r.length];exact z,?_⟩)
 have hf:H1 s1.heap.objs.size=none:=I1.hok.fresh (Al _)
 refine⟨.ref s1.heap.objs.size,upd H1 s1.heap.objs.size (.tup xs),I1.laid (t':=s1.toks) (λb u e=>Ad _ e) (Al _) ?_,rfl,q _ hf⟩
 exact⟨z,us,r,⟨_,Ir _ rfl,rfl,_,rfl⟩⟩
theorem pe_lst(h:PA X es t):PE X (.List es pos) (tLst t):=by
 intro pins s σ H Q I hq
 refine wpAny_List_spliced (thn (h pos pins s σ H _ I hq) λus s1 ⟨xs,H1,I1,r,z,q⟩=>⟨by rw[<-r.length];exact z,?_⟩)
 have hf:H1 s1.heap.objs.size=none:=I1.hok.fresh (Al _)
 refine⟨.ref s1.heap.objs.size,upd H1 s1.heap.objs.size (.lst xs),I1.laid (t':=s1.toks) (λb u e=>Ad _ e) (Al _) ?_,rfl,q _ hf⟩
 exact⟨z,us,0,r,Ir _ rfl⟩
end
abbrev Sp:=List V->Hp->VK->XK->Prop
abbrev CXT:=List Env->Hp->Shared->XK->Value->Shared->Prop
structure Env0(P:Program)(w:World)(K:PySem.W.Frag)(mg:Str->Option Value)(base:Heap)(A:Around)(outer:List Env)(s:Shared)(H:Hp):Prop where
 frames:A.frames=some outer
 mod:Mod K mg base
 bs:∀b o,base.get? b=some o->s.heap.get? b=some o/\H b=none
 bsz:base.objs.size<=s.heap.objs.size
 funs:s.heap.FunFrames base outer
 frf:∀b∈frs outer,H b=none
 hok:HOk P w H s.heap
 bare:AllBare s.gens
def CE(outer:List Env)(P:Program)(w:World)(H:Hp)(s:Shared)(Q:VK)(u:Value)(s':Shared):Prop :=
 ∃v H',s'.os=s.os/\AllBare s'.gens/\Un (frs outer) [] H H' s.heap s'.heap/\HOk P w H' s'.heap/\RelV v u/\Q v H'
def CR(CX:CXT)(outer:List Env)(P:Program)(w:World)(H:Hp)(s:Shared)(Q:VK)(E:XK)(r:Result)(s':Shared):Prop :=
 match r with
 |.ok (.ret u)=>CE outer P w H s Q u s'
 |.ok _=>False
 |.error e=>CX outer H s E e s'
structure FnOk(P:Program)(w:World)(K:PySem.W.Frag)(mg:Str->Option Value)(base:Heap)(CX:CXT)(k:Nat)(f:Addr)(fd:FuncData)(ps:List Str)(sp:Sp):Prop where
 len:∀vs H Q E,sp vs H Q E->vs.length=ps.length
 run:∀(A:Around)(outer:List Env)(s:Shared)(H:Hp)(args:Args)(us:List Value)(vs:List V)(Q:VK)(E:XK),Room k A->Env0 P w K mg base A outer s H->BindsTo s fd args (ps.zip us)->Vals vs us->sp vs H Q E ->
  codeAny (model P w) A (.call (.ref f) args) (CR CX outer P w H s Q E) s
section
variable{X:Cx}{pins:List (Addr×Obj)}{σ:St}{H:Hp}{s s':Shared}
theorem Inv.env0(I:Inv X pins σ H s):Env0 X.prog X.w X.K X.mg X.base X.A X.stack s H :=
 ⟨I.ok.frames,I.ok.mod,I.bs,Io I.ok.bsz I.sz,I.stack,I.stkFree,I.hok,I.bare⟩
theorem Inv.after{Q:VK}{u:Value}(I:Inv X pins σ H s)(h:CE X.stack X.prog X.w H s Q u s'):EP X pins σ Q u s':=by
 obtain⟨v,H',os,bare,un,hok,r,q⟩:=h
 obtain⟨hh,g,d,t,os'⟩:=s'
 obtain rfl:os'=s.os:=os
 exact⟨v,H',I.call (h':=hh) (g':=g) (d':=d) (t':=t) (ch:=[]) un hok bare (λb z=>absurd z (by simp)),r,q⟩
end
def jdd(sp:Sp)(dvs:List V)(E:XK)(t:TA):TE:=λσ H Q=>t σ H λvs H1=>sp (vs++dvs) H1 Q E
def Binds(K:PySem.W.Frag)(fd:FuncData)(ps:List Str)(ds:List Value):Prop :=
 ∀(s:Shared)(us:List Value),K.In s.heap->(us++ds).length=ps.length->BindsTo s fd ⟨us,[]⟩ (ps.zip (us++ds))
theorem Binds.all{K:PySem.W.Frag}{fd:FuncData}{ps:List Str}(h:∀us:List Value,us.length=ps.length->bindArgs fd ⟨us,[]⟩=pure (ps.zip us)):Binds K fd ps []:=λs us _ hl=>by
 rw[Aq]at hl⊢
 exact .of_eq (h us hl)
def jfv(CX:CXT)(X:Cx)(E:XK):Prop:=∀(pins:List (Addr×Obj))(σ:St)(H:Hp)(s:Shared)(e:Value)(s':Shared),Inv X pins σ H s->CX X.stack H s E e s'->X.xe e s'
section
variable{X:Cx}{CX:CXT}{k:Nat}{f C:Addr}{fd:FuncData}{ps:List Str}{sp:Sp}{dvs:List V}{ds:List Value}{E:XK}{x m:Str}{p pos apos:Pos}{e o:Expr}{es:List Expr}{ta:TE}{t:TA}
theorem jl4{pins:List (Addr×Obj)}{σ:St}{H:Hp}{s:Shared}{Q:VK}{us:List Value}{vs:List V}(F:FnOk X.prog X.w X.K X.mg X.base CX k f fd ps sp)(hr:Room k X.A)(hb:Binds X.K fd ps ds)(hd:Vals dvs ds)(hx:jfv CX X E)
  (I:Inv X pins σ H s) (r:Vals vs us) (h:sp (vs++dvs) H Q E):wpAny (model X.prog X.w) X.A (call (.ref f) us) (EP X pins σ Q) X.xe s:=by
 have r2:Vals (vs++dvs) (us++ds):=r.append hd
 have hl:(us++ds).length=ps.length:=by rw[<-r2.length];exact F.len _ _ _ _ h
 refine wpAny_call (W8 (F.run X.A X.stack s H ⟨us,[]⟩ (us++ds) (vs++dvs) Q E hr I.env0 (hb s us I.kIn hl) r2 h) λr s' hq=>?_)
 cases r with
 |error e=>exact hx pins σ H s e s' I hq
 |ok fl =>
  cases fl with
  |ret u=>exact I.after hq
  |next=>exact False.elim hq
  |brk=>exact False.elim hq
  |cont=>exact False.elim hq
theorem pe_call(F:FnOk X.prog X.w X.K X.mg X.base CX k f fd ps sp)(hr:Room k X.A)(hg:Gl X x)(hm:X.mg x=some (.ref f))(hk:PySem.W.keepIn X.K (.ref f)=true)(hb:Binds X.K fd ps ds)(hd:Vals dvs ds)(hx:jfv CX X E)
  (ha:PA X (e::es) t) (hdb:(x == ("__debug__":Str))=false:=by decide) (he:starEach (e::es) X.env=(false,eval e X.env)::starEach es X.env:=by rfl) (hpl:(backTo pos (starEach es X.env)).any (·.1)=false:=by rfl) :
  PE X (.Call (.Name x p) (e::es) [] pos) (jdd sp dvs E t):=by
 intro pins s σ H Q I h
 refine Uc (je9 I hg hm ?_ hdb)
 refine Ye (h₀:=X.base) I.ok.mod.kin hk (thn (ha pos pins s σ H _ I h) λus s1 ⟨vs,H1,I1,r,q⟩=>⟨I1.kIn,?_⟩) he hpl
 exact jl4 F hr hb hd hx I1 r q
end
structure FnScope(N P:List Str)(sc:Scope):Prop where
 kind:sc.kind=.function
 co:sc.isCoroutine=false
 gen:sc.isGenerator=false
 nd:N.Nodup
 pre:N.take P.length=P
 par:∀x∈P,sc.names.lookup x=some .local\/sc.names.lookup x=some .cell
 nofree:∀y∈sc.names,y.2≠.free
theorem jh3{kindOf:Str->Option NameKind}{x:Str}:∀{binds:List (Str×Value)}{m:Str->Option Value},(∀v,(x,v)∉binds)->bindL kindOf binds m x=m x
 |[],_,_=>rfl
 |(n,v)::r,m,h=>by
  unfold bindL
  rw[jh3 λw hw=>h w (Oy _ hw)]
  split
  ·have:x≠n:=by rintro rfl;exact h v Ub
   simp[this]
  ·rfl
theorem jh1{kindOf:Str->Option NameKind}{x:Str}:∀{binds:List (Str×Value)}{m:Str->Option Value},(∀v,(x,v)∉binds)->bindC kindOf binds m x=m x
 |[],_,_=>rfl
 |(n,v)::r,m,h=>by
  unfold bindC
  rw[jh1 λw hw=>h w (Oy _ hw)]
  split
  ·rfl
  ·have:x≠n:=by rintro rfl;exact h v Ub
   simp[this]
theorem jh2{kindOf:Str->Option NameKind}{x:Str}{v:Value}:∀{P:List Str}{vs:List Value}{i:Nat}{m:Str->Option Value},P.Nodup->P[i]?=some x->vs[i]?=some v->kindOf x=some .local ->
  bindL kindOf (P.zip vs) m x=some v
 |[],_,_,_,_,h,_,_=>by simp at h
 |_::_,[],_,_,_,_,h,_=>by simp at h
 |p::P,w::vs,0,m,nd,h1,h2,hk=>by
  simp at h1 h2;subst h1;subst h2
  show bindL kindOf ((p,w)::P.zip vs) m p=_
  unfold bindL
  rw[jh3 λv hv=>(Up.mp nd).1 (W9 hv).1,Am hk]
  simp
 |p::P,w::vs,i+1,m,nd,h1,h2,hk=>by
  show bindL kindOf ((p,w)::P.zip vs) m x=_
  unfold bindL
  exact jh2 (i:=i) (Up.mp nd).2 (by simpa using h1) (by simpa using h2) hk
theorem jh0{kindOf:Str->Option NameKind}{x:Str}{v:Value}:∀{P:List Str}{vs:List Value}{i:Nat}{m:Str->Option Value},P.Nodup->P[i]?=some x->vs[i]?=some v->kindOf x≠some .local ->
  bindC kindOf (P.zip vs) m x=some v
 |[],_,_,_,_,h,_,_=>by simp at h
 |_::_,[],_,_,_,_,h,_=>by simp at h
 |p::P,w::vs,0,m,nd,h1,h2,hk=>by
  simp at h1 h2;subst h1;subst h2
  show bindC kindOf ((p,w)::P.zip vs) m p=_
  unfold bindC
  rw[jh1 λv hv=>(Up.mp nd).1 (W9 hv).1,Ah hk]
  simp
 |p::P,w::vs,i+1,m,nd,h1,h2,hk=>by
  show bindC kindOf ((p,w)::P.zip vs) m x=_
  unfold bindC
  exact jh0 (i:=i) (Up.mp nd).2 (by simpa using h1) (by simpa using h2) hk
def start(N:List Str)(vs:List V):St:=vs.map some++List.replicate (N.length-vs.length) none
def cxOf(CX:CXT)(P:Program)(w:World)(K:PySem.W.Frag)(mg:Str->Option Value)(base:Heap)(N:List Str)(qual:Str)(scope:Scope)(f:Addr)(cd:Value)(A:Around)(outer:List Env)(s:Shared)(H:Hp)(E:XK):Cx where
 prog:=P
 w:=w
 K:=K
 mg:=mg
 base:=base
 A:=A.deeper (envOfC qual scope s.heap.objs.size f cd)
 N:=N
 s₀:=s
 H₀:=H
 env:=envOfC qual scope s.heap.objs.size f cd
 outer:=outer
 stack:=envOfC qual scope s.heap.objs.size f cd::outer
 ex:=[]
 calm:=true
 fn:=λ_=>true
 pn:=[]
 xe:=λe s'=>wpAny (model P w) (A.deeper (envOfC qual scope s.heap.objs.size f cd)) (leaving (envOfC qual scope s.heap.objs.size f cd) e) (λ_ s''=>CX outer H s E e s'') (λe' s''=>CX outer H s E e' s'') s'
theorem jiy{sc:Scope}{n:Nat}{x:Str}(h:sc.names.lookup x=some .cell):∃c,(cellsFrom n sc.names []).lookup x=some c:=by
 have q:=PySem.W.cellsFrom_some sc.names n [] (.inl h)
 exact Option.isSome_iff_exists.mp q
theorem jlm{CX:CXT}{P:Program}{w:World}{K:PySem.W.Frag}{mg:Str->Option Value}{base:Heap}{N ps:List Str}{qual:Str}{scope:Scope}{f:Addr}{cd:Value}{A:Around}{outer:List Env}{s s1:Shared}{H:Hp}{E:XK}{us:List Value}{vs:List V}
  (S:FnScope N ps scope) (hd:A.handled=none) (e0:Env0 P w K mg base A outer s H) (hl:vs.length=ps.length) (r:Vals vs us)
  (x:InCallC s s.heap.objs.size (bindL (envOfC qual scope s.heap.objs.size f cd).kindOf (ps.zip us) λ_=>none) (cellsFrom (s.heap.objs.size+1) scope.names []) (bindC (envOfC qual scope s.heap.objs.size f cd).kindOf (ps.zip us) λ_=>none) s1) :
  Inv (cxOf CX P w K mg base N qual scope f cd A outer s H E) [] (start N vs) H s1:=by
 have hpl:ps.length<=N.length:=by have:=Uh List.length S.pre;rw[Oi]at this;omega
 obtain⟨h1,tk,rfl,hk⟩:=x.done
 have noA:∀b:Addr,b∉(cxOf CX P w K mg base N qual scope f cd A outer s H E).ex:=λb z=>absurd (show b∈([]:List Addr)from z) (by simp)
 refine⟨⟨e0.mod,S.kind,rfl,rfl,Al _,λy z c h1 h2=>?_,λy hy=>?_,λy c _ h=>?_,λ_=>hd,Around.frames_deeper e0.frames,.inr ⟨rfl,rfl⟩,λb z=>absurd z (noA b),e0.bs,e0.bsz,λb _ _=>noA b,λb z=>absurd z (noA b),e0.funs,e0.frf⟩,
  rfl,e0.bare,Un.kept hk,⟨_,x.toInCall.ns,λi y v h1 h2 h3=>?_⟩,λy c h=>⟨_,x.cell y c h⟩,e0.hok.fresh (Al _),λy c h=>?_,λp hp=>absurd (show p∈([]:List (Addr×Obj))from hp) (by simp),e0.hok.kept hk,?_⟩
 ·exact name_of_addr x.apart (Ot h1) (Ot h2)
 ·have hy:scope.names.lookup y=some .cell\/scope.names.lookup y=some .free:=hy
  rcases hy with hy|hy
  ·exact jiy hy
  ·exact absurd rfl (S.nofree _ (Ot hy))
 ·exact U5 (x.above y c (Ot h))
 ·have hi:i<vs.length:=by
   unfold start at h2
   by_cases hi:i<vs.length
   ·exact hi
   ·rw[Ib (by simpa using hi)]at h2
    rw[List.getElem?_replicate]at h2
    split at h2 <;> cases h2
  have ha:vs[i]?=some v:=by
   unfold start at h2
   rw[A1 (by simpa using hi),A9]at h2
   cases e:vs[i]? with
   |none=>rw[e]at h2;cases h2
   |some a=>rw[e]at h2;cases h2;rfl
  obtain⟨u,hu,rv⟩:=r.get ha
  have hp:ps[i]?=some y:=by
   rw[<-S.pre,O2 (by omega)];exact h1
  have ndP:ps.Nodup:=by rw[<-S.pre];exact S.nd.sublist (List.take_sublist _ _)
  refine⟨u,rv,?_⟩
  rcases S.par y (Ay hp)with k|k
  ·exact .inl ⟨k,jh2 ndP hp hu k⟩
  ·obtain⟨c,e⟩:=jiy (n:=s.heap.objs.size+1) k
   refine .inr ⟨.inl k,c,e,?_⟩
   have q:=x.cell y c e
   rw[jh0 ndP hp hu (by show scope.names.lookup y≠_;rw[k];decide)]at q
   exact q
 ·exact e0.hok.fresh (U5 (x.above y c (Ot h)))
 ·unfold start
  show _=N.length
  rw[Ae,Aa,List.length_replicate]
  omega
theorem jip{CX:CXT}{P:Program}{w:World}{K:PySem.W.Frag}{mg:Str->Option Value}{base:Heap}{k:Nat}{f:Addr}{name qual:Str}{params:Arguments}{body:List Stmt}{scope:Scope}{dV kV doc pm cdv ct oc:Value}{an od:Option Addr}
  {osl:Array (Option Value)}{N ps:List Str}{sp:Sp} (lk:K.lookup f=some ⟨oc,od,.func (PySem.W.fnOf name qual params body scope dV kV doc pm an cdv ct),osl⟩) (hcd:PySem.W.codeIn K cdv qual=true) (S:FnScope N ps scope)
  (len:∀vs H Q E,sp vs H Q E->vs.length=ps.length)
  (hbody:∀(A:Around)(outer:List Env)(s:Shared)(H:Hp)(vs:List V)(Q:VK)(E:XK),Room k (A.deeper (envOfC qual scope s.heap.objs.size f cdv))->sp vs H Q E ->
   ∃t,PSs (cxOf CX P w K mg base N qual scope f cdv A outer s H E) body t/\t {nx:=λ_ H'=>Q .non H',rt:=Q} (start N vs) H) :
  FnOk P w K mg base CX (k+1) f (PySem.W.fnOf name qual params body scope dV kV doc pm an cdv ct) ps sp:=by
 refine⟨len,λA outer s H args us vs Q E hr e0 hb r hsp=>?_⟩
 have hl:=len _ _ _ _ hsp
 have KX:K.In s.heap:=e0.mod.kin.keeps λb o e=>(e0.bs b o e).1
 have lim:s.heap.NoLimit:=e0.mod.nolimit.keeps λb o e=>(e0.bs b o e).1
 have hkind:∀y∈ps.zip us,scope.names.lookup y.1=some .local\/(scope.names.lookup y.1=some .cell/\((cellsFrom (s.heap.objs.size+1) scope.names []).lookup y.1).isSome=true):=fun⟨n,v⟩ hy=>by
  rcases S.par n (W9 hy).1 with q|q
  ·exact .inl q
  ·exact .inr ⟨q,PySem.W.cellsFrom_some _ _ _ (.inl q)⟩
 refine codeAny_call_function hr.depth (KX _ _ lk) rfl S.co S.gen rfl (PySem.W.codeRec_of KX hcd) (hb _ _ _ _ ?_)
 refine wpAny_newFunctionEnv_cells S.kind hkind λenv he s1 x=>?_
 subst he
 refine⟨lim.keeps x.toInCall.keep,codeAny_func ?_⟩
 obtain⟨t,ht,hq⟩:=hbody A outer s H vs Q E (hr.deeper _) hsp
 have I:Inv (cxOf CX P w K mg base N qual scope f cdv A outer s H E) [] (start N vs) H s1:=jlm S hr.hd e0 hl r x
 refine Ol (ht [] s1 (start N vs) H _ I hq) (λfl s' hs=>?_) λe s' hs=>hs
 have fin:∀{σ':St}{H':Hp}{v:V}{u:Value},Inv (cxOf CX P w K mg base N qual scope f cdv A outer s H E) [] σ' H' s'->RelV v u->Q v H'->CE outer P w H s Q u s' :=
  fun{σ' H' v u} J rv q=>⟨v,H',J.os,J.bare,J.base,J.hok,rv,q⟩
 cases fl with
 |ret u =>
  obtain⟨v,σ',H',J,rv,q⟩:=hs
  exact fin J rv q
 |next =>
  obtain⟨σ',H',J,q⟩:=hs
  exact fin (v:=V.non) (u:=Value.none) J rfl q
 |brk =>
  obtain⟨_,_,_,q⟩:=hs
  exact False.elim q
 |cont =>
  obtain⟨_,_,_,q⟩:=hs
  exact False.elim q
section
variable{X:Cx}{x:Str}{p pos:Pos}{e:Expr}{es:List Expr}{t:TA}{id T:String}{r:List V->Hp->VK->Prop}
def tCB(r:List V->Hp->VK->Prop)(t:TA):TE:=λσ H Q=>t σ H λvs H1=>r vs H1 Q
theorem pe_callB(hc:jeb X (.builtin id) r)(hg:Gl X x)(hm:X.mg x=none)(hv:bootBuiltins x=some (.builtin id))(ha:PA X (e::es) t)(hn:x≠"__name__":=by decide)(hdb:(x == ("__debug__":Str))=false:=by decide)
  (he:starEach (e::es) X.env=(false,eval e X.env)::starEach es X.env:=by rfl) (hpl:(backTo pos (starEach es X.env)).any (·.1)=false:=by rfl):PE X (.Call (.Name x p) (e::es) [] pos) (tCB r t):=by
 intro pins s σ H Q I h
 refine Uc (jhe I hg hm hv ?_ hn hdb)
 exact PyProof.Rows.callWith_builtin1 (thn (ha pos pins s σ H _ I h) λus s1 ⟨vs,H1,I1,r1,q1⟩=>hc pins s1 σ H1 vs us Q I1 r1 q1) he hpl
theorem pe_callTy(hc:jeb X (.type T) r)(hg:Gl X x)(hm:X.mg x=none)(hv:bootBuiltins x=some (.type T))(ha:PA X (e::es) t)(hn:x≠"__name__":=by decide)(hdb:(x == ("__debug__":Str))=false:=by decide)
  (he:starEach (e::es) X.env=(false,eval e X.env)::starEach es X.env:=by rfl) (hpl:(backTo pos (starEach es X.env)).any (·.1)=false:=by rfl):PE X (.Call (.Name x p) (e::es) [] pos) (tCB r t):=by
 intro pins s σ H Q I h
 refine Uc (jhe I hg hm hv ?_ hn hdb)
 exact U9 (thn (ha pos pins s σ H _ I h) λus s1 ⟨vs,H1,I1,r1,q1⟩=>hc pins s1 σ H1 vs us Q I1 r1 q1) he hpl
end
end L2
namespace HT
open PySem PyProof.Rows
section
variable{prog:Program}{w:World}{A:Around}{E:Value->Shared->Prop}{s:Shared}
theorem cat_tup{t b:Addr}{vs ws:List Value}{Q:Value->Shared->Prop}(ht:IsTup s.heap t vs.toArray)(hb:IsTup s.heap b ws.toArray)(hv:vs≠[])
  (h1:ws=[]->Q (.ref t) s) (h2:ws≠[]->Q (.ref s.heap.objs.size) {s with heap:=s.heap.push {cls:=.type "tuple",data:=.seq (vs++ws).toArray}})
  (hsz:vs.length+ws.length<=sizeLine):wpAny (model prog w) A (binaryOp .Add (.ref t) (.ref b)) Q E s:=by
 obtain⟨⟨cls,dd,data,sl⟩,ho,hc,n,hd⟩:=id ht
 obtain⟨⟨cls2,dd2,data2,sl2⟩,ho2,hc2,n2,hd2⟩:=id hb
 simp only at hc hd hc2 hd2
 subst hc hd hc2 hd2
 have e:vs.toArray++ws.toArray=(vs++ws).toArray:=by simp
 by_cases hw:ws=[]
 ·exact concat_meets ⟨_,ho,rfl⟩ ⟨_,ho2,rfl⟩ noFill_tuple_add seq_tuple_add Wy Wt (Wp _ _)
   (tuple_addW1 t b vs.toArray ws.toArray n n2 dd dd2 sl sl2 (by simpa using hv) (by simp[hw])) ⟨ho,ho2,h1 hw⟩
 ·refine concat_meets ⟨_,ho,rfl⟩ ⟨_,ho2,rfl⟩ noFill_tuple_add seq_tuple_add Wy Wt (Wp _ _)
   (tuple_addW2 t b vs.toArray ws.toArray n n2 dd dd2 sl sl2 (by simpa using hv) (by simpa using hw) (by rw[Ia,Ia];exact hsz)) ⟨ho,ho2,?_⟩
  rw[e]
  exact h2 hw
def sIx(n d:Nat):Option Int->Nat
 |none=>d
 |some v=>if v<0 then(v+(n:Int)).toNat else min v.toNat n
theorem sIx_none(n d:Nat):sIx n d none=d:=rfl
theorem sIx_nat(n d k:Nat):sIx n d (some (k:Int))=min k n:=by
 show(if(k:Int)<0 then((k:Int)+(n:Int)).toNat else min (k:Int).toNat n)=min k n
 rw[Ah (by omega),Int.toNat_natCast]
theorem jor(n d:Nat)(hd:d<=n)(o:Option Int):sIx n d o<=n:=by
 cases o with
 |none=>exact hd
 |some v =>
  show(if v<0 then(v+(n:Int)).toNat else min v.toNat n)<=n
  by_cases hv:v<0
  ·rw[Am hv];omega
  ·rw[Ah hv];exact Nat.min_le_right _ _
theorem jj0(v:Int)(n d:Nat):(if v<0 then max (v+(n:Int)) 0 else min v (n:Int))=((sIx n d (some v):Nat):Int):=by
 show(if v<0 then max (v+(n:Int)) 0 else min v (n:Int))=(((if v<0 then(v+(n:Int)).toNat else min v.toNat n):Nat):Int)
 by_cases hv:v<0
 ·simp only[Am hv];omega
 ·simp only[Ah hv];omega
theorem jkq(lo hi:Option Int)(n:Nat):Builtin.Slice.sliceAdjust lo hi 1 (n:Int)=(((sIx n 0 lo:Nat):Int),((sIx n n hi:Nat):Int)):=by
 have h1:¬((1:Int)<0):=by omega
 unfold Builtin.Slice.sliceAdjust
 simp only[h1,Ih]
 refine Prod.ext ?_ ?_
 ·cases lo with
  |none=>rfl
  |some v=>exact jj0 v n 0
 ·cases hi with
  |none=>rfl
  |some v=>exact jj0 v n n
theorem places_gen(i j:Nat):Builtin.Slice.slicePlaces (i:Int) (j:Int) 1=j-i:=by
 unfold Builtin.Slice.slicePlaces
 have h1:(1:Int)>0:=by omega
 simp only[h1,Ik,Int.ediv_one]
 split <;> omega
theorem jhn{v:Value}{o:Option Int}{Q:Option Int->Shared->Prop}(p:IsPart v o)(h:Q o s):wpAny (model prog w) A (Builtin.Slice.slicePartIndex v) Q E s:=by
 cases p with
 |none=>exact slicePart_none h
 |int i t=>exact slicePart_int h
theorem sliceApplied_gen{sl:Addr}{vl vu:Value}{lo hi:Option Int}{n:Nat}{Q:Int×Int×Nat->Shared->Prop}(hs:s.heap.IsSliceOf sl vl vu .none)(pl:IsPart vl lo)(pu:IsPart vu hi)
  (h:Q (((sIx n 0 lo:Nat):Int),1,sIx n n hi-sIx n 0 lo) s):wpAny (model prog w) A (Builtin.Slice.sliceApplied (.ref sl) (pure (n:Int))) Q E s:=by
 obtain⟨os,hos,hcs,hds⟩:=id hs
 unfold Builtin.Slice.sliceApplied Builtin.Slice.sliceFields
 refine Ac (Ac (Wf hos hds (x:=vl) rfl (Ac (Wf hos hds (x:=vu) rfl (Ac (Wf hos hds (x:=.none) rfl (A5 ?_)))))))
 refine Ac (slicePart_none ?_)
 show wpAny _ _ (if((1:Int) == 0)=true then _ else _) _ _ s
 rw[Ah (by decide)]
 refine Ac (jhn pl (Ac (jhn pu (Ac (A5 ?_)))))
 show wpAny _ _ (match Builtin.Slice.sliceAdjust lo hi 1 (n:Int)with|(lo,hi)=>pure (lo,(1:Int),Builtin.Slice.slicePlaces lo hi 1)) _ _ s
 rw[jkq lo hi n]
 show wpAny _ _ (pure (((sIx n 0 lo:Nat):Int),(1:Int),Builtin.Slice.slicePlaces ((sIx n 0 lo:Nat):Int) ((sIx n n hi:Nat):Int) 1)) _ _ s
 rw[places_gen]
 exact A5 h
theorem pick_gen(xs:Array Value)(i k:Nat):((List.range k).filterMap fun(m:Nat)=>xs[((i:Int)+(m:Int)*1).toNat]?).toArray=((xs.toList.drop i).take k).toArray:=by
 have e:(fun(m:Nat)=>xs[((i:Int)+(m:Int)*1).toNat]?)=λm=>xs[i+m]?:=by
  funext m
  have:((i:Int)+(m:Int)*1).toNat=i+m:=by omega
  rw[this]
 rw[e]
 have:=pick_run xs i k
 rw[List.filterMap_map]at this
 have e2:((λx=>xs[x]?)∘λx=>i+x)=λm=>xs[i+m]?:=rfl
 rw[e2]at this
 rw[this]
theorem getItem_tuple_cut{t sl:Addr}{items:Array Value}{vl vu:Value}{lo hi:Option Int}{Q:Value->Shared->Prop}(ht:IsTup s.heap t items)(hs:s.heap.IsSliceOf sl vl vu .none)(pl:IsPart vl lo)(pu:IsPart vu hi)
  (hw:¬(sIx items.size 0 lo=0/\sIx items.size items.size hi=items.size))
  (h:Q (.ref s.heap.objs.size) {s with heap:=s.heap.push {cls:=.type "tuple",data:=.seq ((items.toList.drop (sIx items.size 0 lo)).take (sIx items.size items.size hi-sIx items.size 0 lo)).toArray}})
  (hsz:items.size<=sizeLine):wpAny (model prog w) A (getItem (.ref t) (.ref sl)) Q E s:=by
 have htake:sizeOk (.seq ((items.toList.drop (sIx items.size 0 lo)).take (sIx items.size items.size hi-sIx items.size 0 lo)).toArray):=by
  show((items.toList.drop (sIx items.size 0 lo)).take (sIx items.size items.size hi-sIx items.size 0 lo)).toArray.size<=sizeLine
  rw[Ia,Oi,Ua,Array.length_toList]
  omega
 have hj:sIx items.size items.size hi<=items.size:=jor _ _ (Al _) hi
 obtain⟨os,hos,hcs,hds⟩:=id hs
 have hTs:s.TypeIs (.ref sl) "slice":=⟨os,hos,hcs⟩
 unfold getItem
 try with_reducible refine O9 ?_
 first|refine Ac (A5 ?_)|skip
 refine Ac (wpAny_sequenceKey ht.typeIs (by decide) ?_)
 refine Ac (wpAny_callSpecial?_slot (name:=Str.ofString "__getitem__") ht.typeIs Oo
  (wpAny_call_entry Oo ht.typeIs entry_tuple_getitem ?_ (args_tuple_getitem _ _)))
 show wpAny _ _ (Builtin.Tuple.tupleItemsOf (.ref t) >>= _) _ _ s
 refine Ac (tupleItemsOf_ ht ?_)
 refine Ac (wpAny_typeOf hTs ?_)
 rw[Am (by decide)]
 refine Ac (sliceApplied_gen hs pl pu ?_)
 have hno:¬((((sIx items.size 0 lo:Nat):Int) == 0 && (1:Int) == 1 && (sIx items.size items.size hi-sIx items.size 0 lo) == items.size)=true):=by
  intro q
  rw[Ul,Ul]at q
  have q1:((sIx items.size 0 lo:Nat):Int)=0:=eq_of_beq q.1.1
  have q2:sIx items.size items.size hi-sIx items.size 0 lo=items.size:=eq_of_beq q.2
  exact hw ⟨by omega,by omega⟩
 show wpAny _ _ (if(((sIx items.size 0 lo:Nat):Int) == 0 && (1:Int) == 1 && (sIx items.size items.size hi-sIx items.size 0 lo) == items.size)=true then _ else _) _ _ s
 rw[Ah hno,pick_gen]
 first
  |exact Ac (m:=Builtin.Tuple.tupleExact _) (Uj (A5 ⟨_,rfl,A5 h⟩) htake)
  |exact Ac (m:=Builtin.Tuple.tupleExact _) (Uj (Ac (A5 (A5 ⟨_,rfl,A5 h⟩))) htake)
  |exact Ac (Ac (m:=Builtin.Tuple.tupleExact _) (Uj (A5 (A5 ⟨_,rfl,A5 h⟩)) htake))
  |exact Ac (Ac (m:=Builtin.Tuple.tupleExact _) (Uj (A5 ⟨_,rfl,A5 h⟩) htake))
end
end HT
namespace L2
open PySem PySem.Spec PyProof.Rows
abbrev TO:=St->Hp->(Option Int->Hp->Prop)->Prop
def PO(X:Cx)(e:Option Expr)(t:TO):Prop :=
 ∀(pins:List (Addr×Obj))(s:Shared)(σ:St)(H:Hp)(Q:Option Int->Hp->Prop),Inv X pins σ H s->t σ H Q ->
  wpAny (model X.prog X.w) X.A (evalPart e X.env) (λu s'=>∃o H',Inv X pins σ H' s'/\IsPart u o/\Q o H') X.xe s
def jcw:TO:=λ_ H Q=>Q none H
def jdk(t:TE):TO:=λσ H Q=>t σ H λx H1=>∃i,x=.int i/\Q (some i) H1
section
variable{X:Cx}{e:Expr}{te:TE}{lo hi:Option Expr}{tl th:TO}{pos p2:Pos}
theorem po_none:PO X none jcw:=by
 intro pins s σ H Q I h
 rw[evalPart_none]
 exact A5 ⟨none,H,I,.none,h⟩
theorem po_some(h:PE X e te):PO X (some e) (jdk te):=by
 intro pins s σ H Q I hw
 rw[evalPart_some]
 refine thn (h pins s σ H _ I hw) λu s1 ⟨x,H1,I1,r1,q1⟩=>?_
 obtain⟨i,rfl,q⟩:=q1
 obtain⟨t,rfl⟩:=r1
 exact⟨some i,H1,I1,.int i t,q⟩
def SlR(X:Cx)(r:V->Option Int->Option Int->Hp->VK->Prop):Prop :=
 ∀(pins:List (Addr×Obj))(s:Shared)(σ:St)(H:Hp)(x:V)(v vl vu:Value)(lo hi:Option Int)(sl:Addr)(Q:VK),Inv X pins σ H s->RelV x v->s.heap.IsSliceOf sl vl vu .none->IsPart vl lo->IsPart vu hi->r x lo hi H Q ->
  ∃T id,typeLookup (.type T) "__getitem__"=pure (some (.builtin id))/\s.TypeIs v T/\wpAny (model X.prog X.w) X.A (getItem v (.ref sl)) (EP X pins σ Q) X.xe s
theorem SlR.or{r r':V->Option Int->Option Int->Hp->VK->Prop}(h:SlR X r)(h':SlR X r'):SlR X (λx lo hi H Q=>r x lo hi H Q\/r' x lo hi H Q):=by
 intro pins s σ H x v vl vu lo hi sl Q I rx hs pl pu q
 rcases q with q|q
 ·exact h pins s σ H x v vl vu lo hi sl Q I rx hs pl pu q
 ·exact h' pins s σ H x v vl vu lo hi sl Q I rx hs pl pu q
def tSl(r:V->Option Int->Option Int->Hp->VK->Prop)(te:TE)(tl th:TO):TE:=λσ H Q=>te σ H λx H1=>tl σ H1 λl H2=>th σ H2 λu H3=>r x l u H3 Q
theorem pe_slice{r:V->Option Int->Option Int->Hp->VK->Prop}(hr:SlR X r)(he:PE X e te)(hl:PO X lo tl)(hu:PO X hi th):PE X (.Subscript e (.Slice lo hi none p2) pos) (tSl r te tl th):=by
 intro pins s σ H Q I h
 refine Subscript_ (thn (he pins s σ H _ I h) λv s1 ⟨x,H1,I1,r1,q1⟩=>?_)
 refine wpAny_Slice (thn (hl pins s1 σ H1 _ I1 q1) λvl s2 ⟨l,H2,I2,pl,q2⟩=>thn (hu pins s2 σ H2 _ I2 q2) λvu s3 ⟨u,H3,I3,pu,q3⟩=>?_)
 rw[evalPart_none]
 refine A5 ?_
 have I4:Inv X pins σ H3 {s3 with heap:=s3.heap.push {cls:=.type "slice",data:=.fields #[vl,vu,.none]}}:=I3.kept (t':=s3.toks) λb ob q=>Ad _ q
 obtain⟨T,id,hT,ht,hg⟩:=hr pins {s3 with heap:=s3.heap.push {cls:=.type "slice",data:=.fields #[vl,vu,.none]}} σ H3 x v vl vu l u s3.heap.objs.size Q I4 r1 (Heap.IsSliceOf.new ..) pl pu q3
 show wpAny (model X.prog X.w) X.A (subscriptTail e (.Slice lo hi none p2) v (.ref s3.heap.objs.size)) (EP X pins σ Q) X.xe {s3 with heap:=s3.heap.push {cls:=.type "slice",data:=.fields #[vl,vu,.none]}}
 exact tail_any (ops:=[.ref s3.heap.objs.size,v]) ht hT hg (by with_unfolding_all rfl)
def cutV(xs:List V)(lo hi:Option Int):List V:=(xs.drop (HT.sIx xs.length 0 lo)).take (HT.sIx xs.length xs.length hi-HT.sIx xs.length 0 lo)
theorem jgf(xs:List V)(lo hi:Option Int):(cutV xs lo hi).length<=xs.length:=by
 unfold cutV
 rw[Oi,Ua]
 omega
def rSlT(K:PySem.W.Frag):V->Option Int->Option Int->Hp->VK->Prop:=λx lo hi H Q=>∃a xs,x=.ref a/\SqT K H a xs /\
 ¬(HT.sIx xs.length 0 lo=0/\HT.sIx xs.length xs.length hi=xs.length)/\∀p,H p=none->Q (.ref p) (upd H p (.tup (cutV xs lo hi)))
theorem sl_tup:SlR X (rSlT X.K):=by
 intro pins s σ H x v vl vu lo hi sl Q I rx hs pl pu h
 obtain⟨a,xs,rfl,hx,hw,q⟩:=h
 cases rx
 obtain⟨its,r,ht,hz⟩:=I.tuple hx
 have hlen:its.toArray.size=xs.length:=by rw[Ia];exact r.length.symm
 refine⟨"tuple",_,Oo.lookup,ht.typeIs,?_⟩
 refine HT.getItem_tuple_cut ht hs pl pu (by rw[hlen];exact hw) ?_ (by rw[hlen];exact hz)
 rw[hlen]
 refine⟨.ref s.heap.objs.size,_,I.laid (t':=s.toks) (o:=.tup (cutV xs lo hi)) (λb ob q=>Ad _ q) (Al _) ?_,rfl,q _ (I.hok.fresh (Al _))⟩
 exact⟨Io (jgf xs lo hi) hz,_,(r.drop (HT.sIx xs.length 0 lo)).take (HT.sIx xs.length xs.length hi-HT.sIx xs.length 0 lo),IsTup.new _ _⟩
def jo1(K:PySem.W.Frag):R2:=λx y H Q=>∃a b xs ys,x=.ref a/\y=.ref b/\SqT K H a xs/\SqT K H b ys/\xs≠[]/\xs.length+ys.length<=sizeLine /\
 (ys=[]->Q (.ref a) H)/\(ys≠[]->∀p,H p=none->Q (.ref p) (upd H p (.tup (xs++ys))))
theorem Vals.nil_iff{xs:List V}{us:List Value}(r:Vals xs us):us=[]↔xs=[]:=by
 cases r with
 |nil=>simp
 |cons _ _=>simp
theorem jbr:OpR X (binaryOp .Add) (jo1 X.K):=by
 intro pins s σ H x y v u Q I rx ry h
 obtain⟨a,b,xs,ys,rfl,rfl,ha,hb,hx,hz,q1,q2⟩:=h
 cases rx
 cases ry
 obtain⟨its,r1,p1,_⟩:=I.tuple ha
 obtain⟨its2,r2,p2,_⟩:=I.tuple hb
 refine HT.cat_tup p1 p2 (λz=>hx (r1.nil_iff.mp z)) (λz=>⟨.ref a,H,I,rfl,q1 (r2.nil_iff.mp z)⟩) (λz=>?_) (by rw[<-r1.length,<-r2.length];exact hz)
 refine⟨.ref s.heap.objs.size,_,I.laid (t':=s.toks) (o:=.tup (xs++ys)) (λb ob q=>Ad _ q) (Al _) ?_,rfl,q2 (λw=>z (r2.nil_iff.mpr w)) _ (I.hok.fresh (Al _))⟩
 exact⟨by rw[Ae];exact hz,_,r1.append r2,IsTup.new _ _⟩
end
def ixN(n:Nat)(i:Int):Option Nat:=if 0<=i then(if i<n then some i.toNat else none)else if -(n:Int)<=i then some (i+n).toNat else none
def atI{α:Type}(xs:List α)(i:Int):Option α:=(ixN xs.length i).bind λj=>xs[j]?
theorem jj9{n:Nat}{i:Int}{j:Nat}(h:ixN n i=some j):seqIndex? i n=some j/\j<n/\-(n:Int)<=i/\i<n:=by
 unfold ixN at h
 by_cases h0:0<=i
 ·rw[Am h0]at h
  by_cases h1:i<n
  ·rw[Am h1]at h
   have e:i.toNat=j:=A7 h
   exact⟨by rw[seqIndex_of h0 h1,e],by omega,by omega,h1⟩
  ·rw[Ah h1]at h;cases h
 ·rw[Ah h0]at h
  by_cases h1:-(n:Int)<=i
  ·rw[Am h1]at h
   have e:(i+n).toNat=j:=A7 h
   exact⟨by rw[seqIndex_neg (by omega) h1,e],by omega,h1,by omega⟩
  ·rw[Ah h1]at h;cases h
theorem jhq{α:Type}{xs:List α}{i:Int}{v:α}(h:atI xs i=some v):∃j,seqIndex? i xs.length=some j/\xs[j]?=some v/\j<xs.length/\-(xs.length:Int)<=i/\i<xs.length:=by
 unfold atI at h
 cases e:ixN xs.length i with
 |none=>rw[e]at h;cases h
 |some j =>
  rw[e]at h
  obtain⟨h1,h2,h3,h4⟩:=jj9 e
  exact⟨j,h1,h,h2,h3,h4⟩
theorem jdv{α:Type}{xs:List α}{j:Nat}{v:α}(h:xs[j]?=some v):atI xs (j:Int)=some v:=by
 have hj:j<xs.length:=(Ab.mp h).1
 have e:ixN xs.length (j:Int)=some j:=by
  unfold ixN
  rw[Am (by omega),Am (by omega)];simp
 unfold atI;rw[e];exact h
def jjz(b:Expr):Prop:=∀o i,subscripted b false o i=operate [o,i] (getItem o i)
def IxR(X:Cx)(r:R2):Prop :=
 ∀(value slice:Expr)(pins:List (Addr×Obj))(s:Shared)(σ:St)(H:Hp)(x y:V)(v u:Value)(Q:VK),Inv X pins σ H s->RelV x v->RelV y u->r x y H Q ->
  subscripted slice false v u=operate [v,u] (getItem v u)->wpAny (model X.prog X.w) X.A (subscriptTail value slice v u) (EP X pins σ Q) X.xe s
def MtR(X:Cx)(id:String)(r:V->List V->Hp->VK->Prop):Prop :=
 ∀(pins:List (Addr×Obj))(s:Shared)(σ:St)(H:Hp)(x:V)(xs:List V)(v:Value)(us:List Value)(Q:VK),Inv X pins σ H s->RelV x v->Vals xs us->r x xs H Q ->
  wpAny (model X.prog X.w) X.A (call (.builtin id) (v::us)) (EP X pins σ Q) X.xe s
section
variable{X:Cx}{a b:Expr}{ta tb:TE}{pos:Pos}
theorem pe_ix{r:R2}(hr:IxR X r)(ha:PE X a ta)(hb:PE X b tb)(hs:jjz b):PE X (.Subscript a b pos) (tOp r ta tb):=by
 intro pins s σ H Q I h
 exact Subscript_ (binT ha hb I h λv u s2 x y H2 I2 rx ry q=>hr a b pins s2 σ H2 x y v u Q I2 rx ry q (hs _ _))
def rIxL(K:PySem.W.Frag):R2:=λx y H Q=>∃p xs i v,x=.ref p/\y=.int i/\SqL K H p xs/\atI xs i=some v/\Q v H
def rIxT(K:PySem.W.Frag):R2:=λx y H Q=>∃p xs i v,x=.ref p/\y=.int i/\SqT K H p xs/\atI xs i=some v/\Q v H
def rIxS:R2:=λx y H Q=>∃z i c,x=.str z/\y=.int i/\z.length<=sizeLine/\atI z.cps.toList i=some c/\Q (.str ⟨#[c]⟩) H
theorem ja9:IxR X (rIxL X.K):=by
 intro value slice pins s σ H x y v u Q I rx ry h hs
 obtain⟨p,xs,i,z,rfl,rfl,hq,he,q⟩:=h
 cases rx
 obtain⟨t,rfl⟩:=ry
 obtain⟨its,r,pl,hz⟩:=I.list hq
 obtain⟨j,h1,h2,h3,h4,h5⟩:=jhq he
 obtain⟨w,ew,rw'⟩:=r.get h2
 have hl:=r.length
 have hn:=jfm
 have fin:EP X pins σ Q w s:=⟨z,H,I,rw',q⟩
 by_cases h0:0<=i
 ·have hj:i.toNat=j:=by
   rw[seqIndex_of h0 h5]at h1
   exact A7 h1
  exact item_listR pl.isList h0 (by omega) (by rw[hj];simpa using ew) fin hs
 ·have hj:(i+(its.toArray.size:Int)).toNat=j:=by
   rw[seqIndex_neg (by omega) h4]at h1
   rw[Ia,<-hl]
   exact A7 h1
  exact subscriptTail_builtinR (x:=w) pl.isList.typeIs slot_list_getitem.lookup
   (wpAny_getItem_list_neg (Q:=λr s'=>r=w/\EP X pins σ Q r s') pl.isList (by omega) (by rw[Ia] <;> omega) (by omega) (by rw[hj];simpa using ew) ⟨rfl,fin⟩) hs
theorem ix_tup:IxR X (rIxT X.K):=by
 intro value slice pins s σ H x y v u Q I rx ry h hs
 obtain⟨p,xs,i,z,rfl,rfl,hq,he,q⟩:=h
 cases rx
 obtain⟨t,rfl⟩:=ry
 obtain⟨its,r,pl,hz⟩:=I.tuple hq
 obtain⟨j,h1,h2,h3,h4,h5⟩:=jhq he
 obtain⟨w,ew,rw'⟩:=r.get h2
 have hl:=r.length
 have hn:=jfm
 have fin:EP X pins σ Q w s:=⟨z,H,I,rw',q⟩
 exact subscriptTail_builtinR (x:=w) pl.typeIs slot_tuple_getitem.lookup
  (getItem_tuple (j:=j) (Q:=λr s'=>r=w/\EP X pins σ Q r s') pl (by omega) (by omega) (by rw[Ia,<-hl];exact h1) (by simpa using ew) ⟨rfl,fin⟩) hs
theorem ix_str:IxR X rIxS:=by
 intro value slice pins s σ H x y v u Q I rx ry h hs
 obtain⟨z,i,c,rfl,rfl,hz,he,q⟩:=h
 obtain⟨t,rfl⟩:=rx
 obtain⟨t',rfl⟩:=ry
 obtain⟨j,h1,h2,h3,h4,h5⟩:=jhq he
 have hl:z.cps.toList.length=z.length:=by simp[Str.length]
 rw[hl]at h1 h4 h5
 have hn:=jfm
 exact tail_any (typeIs_str s z t) slot_str_getitem.lookup (getItem_str (c:=c) (by
  have e1:decide (i < -(2^63:Int))=false:=Ox (by omega)
  have e2:decide (i ≥ 2^63)=false:=Ox (by omega)
  rw[e1,e2,Bool.or_false]) (by rw[h1];simpa using h2) ⟨.str ⟨#[c]⟩,H,I.tok _,⟨_,rfl⟩,q⟩) hs
theorem jkw(its:List Value)(n j:Nat)(u:Value):Obj.mapSeq (·.setIfInBounds j u) {cls:=.type "list",data:=.seq its.toArray n}={cls:=.type "list",data:=.seq (its.set j u).toArray n}:=by
 simp[Obj.mapSeq]
theorem Inv.lst{pins:List (Addr×Obj)}{σ:St}{H:Hp}{s:Shared}{p:Addr}{xs:List V}(I:Inv X pins σ H s)(h:H p=some (.lst xs)) :
  ∃(its:List Value)(n:Nat),Vals xs its/\s.heap.get? p=some {cls:=.type "list",data:=.seq its.toArray n}/\xs.length<=sizeLine:=by
 obtain⟨z,its,n,r,e⟩:=I.hok p _ h
 exact⟨its,n,r,e,z⟩
theorem Inv.lstUpd{pins:List (Addr×Obj)}{σ:St}{H:Hp}{s:Shared}{p:Addr}{xs ys:List V}{its its':List Value}{n n':Nat}{f:Obj->Obj}(I:Inv X pins σ H s)(h:H p=some (.lst xs))
  (ho:s.heap.get? p=some {cls:=.type "list",data:=.seq its.toArray n}) (hf:f {cls:=.type "list",data:=.seq its.toArray n}={cls:=.type "list",data:=.seq its'.toArray n'}) (r:Vals ys its') (hz:ys.length<=sizeLine) (t:Nat) :
  Inv X pins σ (upd H p (.lst ys)) {s with heap:=s.heap.update p f,toks:=t}:=by
 have e:(s.heap.update p f).get? p=some {cls:=.type "list",data:=.seq its'.toArray n'}:=by
  rw[U6 f ho (by rw[hf] <;> rfl),hf]
 refine I.write (x:=p) (e:=p) (by rw[h];trivial) (.inl rfl) (λb u hb q=>(Og _ _ (O3 hb)).trans q) ⟨_,e⟩ ?_
 exact⟨hz,its',n',r,e⟩
def jo2:V->V->V->Hp->(Hp->Prop)->Prop:=λo i v H Q=>∃p xs k j,o=.ref p/\i=.int k/\H p=some (.lst xs)/\ixN xs.length k=some j/\Q (upd H p (.lst (xs.set j v)))
theorem jmw:PSet X jo2:=by
 intro pins s σ H o i v ov iv u Q I ro ri rv h
 obtain⟨p,xs,k,j,rfl,rfl,hp,hj,q⟩:=h
 cases ro
 obtain⟨t,rfl⟩:=ri
 obtain⟨its,n,r,ho,hz⟩:=I.lst hp
 obtain⟨h1,h2,h3,h4⟩:=jj9 hj
 have hl:=r.length
 have hn:=jfm
 have I':Inv X pins σ (upd H p (.lst (xs.set j v))) {s with heap:=s.heap.update p (Obj.mapSeq (·.setIfInBounds j u))} :=
  I.lstUpd hp ho (jkw its n j u) (r.set rv j) (by rw[Wi];exact hz) s.toks
 by_cases h0:0<=k
 ·have hk:k.toNat=j:=by
   rw[seqIndex_of h0 h4]at h1
   exact A7 h1
  exact PySem.W.ki_setAt ho h0 (by omega) (by rw[Ia,<-hl];exact h4) (by rw[hk];exact⟨_,I',q⟩)
 ·have hk:(k+(its.toArray.size:Int)).toNat=j:=by
   rw[seqIndex_neg (by omega) h3]at h1
   rw[Ia,<-hl]
   exact A7 h1
  exact PySem.W.ki_setBack ho (by omega) (by rw[Ia,<-hl];exact h3) (by omega) (by rw[hk];exact⟨_,I',q⟩)
theorem jjh(lo hi:Option Int)(n:Nat):(sliceBounds lo hi none n).1=((HT.sIx n 0 lo:Nat):Int)/\(sliceBounds lo hi none n).2.1=((HT.sIx n n hi:Nat):Int)/\(sliceBounds lo hi none n).2.2=1:=by
 refine⟨?_,?_,rfl⟩
 ·cases lo with
  |none=>simp[sliceBounds,HT.sIx]
  |some i =>
   simp only[sliceBounds,HT.sIx,Option.getD_none,show(1:Int)>0 by decide,Ik]
   by_cases h:i<0
   ·simp only[h,Ik] <;> omega
   ·simp only[h,Ih] <;> omega
 ·cases hi with
  |none=>simp[sliceBounds,HT.sIx]
  |some i =>
   simp only[sliceBounds,HT.sIx,Option.getD_none,show(1:Int)>0 by decide,Ik]
   by_cases h:i<0
   ·simp only[h,Ik] <;> omega
   ·simp only[h,Ih] <;> omega
theorem jim(its:List Value)(lo hi:Option Int):slicePick its.toArray lo hi none=((its.drop (HT.sIx its.length 0 lo)).take (HT.sIx its.length its.length hi-HT.sIx its.length 0 lo)).toArray:=by
 obtain⟨h1,h2,h3⟩:=jjh lo hi its.toArray.size
 unfold slicePick
 rw[h1,h2,h3]
 simp only[sliceRange_one,pick_run,Ia] <;> rfl
def rSlL(K:PySem.W.Frag):V->Option Int->Option Int->Hp->VK->Prop:=λx lo hi H Q=>∃a xs,x=.ref a/\SqL K H a xs/\∀p,H p=none->Q (.ref p) (upd H p (.lst (cutV xs lo hi)))
theorem sl_list:SlR X (rSlL X.K):=by
 intro pins s σ H x v vl vu lo hi sl Q I rx hs pl pu h
 obtain⟨a,xs,rfl,hx,q⟩:=h
 cases rx
 obtain⟨its,r,ht,hz⟩:=I.list hx
 have hlen:=r.length
 refine⟨"list",_,slot_list_getitem.lookup,ht.isList.typeIs,?_⟩
 refine wpAny_getItem_list_slice ht.isList hs pl pu .none (by simp) ?_ (by rw[Ia] <;> omega)
 rw[jim,<-hlen]
 refine⟨.ref s.heap.objs.size,_,I.laid (t':=s.toks) (o:=.lst (cutV xs lo hi)) (λb ob q=>Ad _ q) (Al _) ?_,rfl,q _ (I.hok.fresh (Al _))⟩
 exact⟨Io (jgf xs lo hi) hz,_,0,(r.drop (HT.sIx xs.length 0 lo)).take (HT.sIx xs.length xs.length hi-HT.sIx xs.length 0 lo),Ir _ rfl⟩
theorem zg:jeb X (.builtin "len") (λxs H Q=>∃p ys,xs=[.ref p]/\(SqL X.K H p ys\/SqT X.K H p ys)/\Q (.int ys.length) H):=by
 intro pins s σ H xs us Q I r h
 obtain⟨p,ys,rfl,hq,q⟩:=h
 obtain⟨u,rfl,rx⟩:=jet r
 cases rx
 have hn:=jfm
 rcases hq with hq|hq
 ·obtain⟨its,r',pl,hz⟩:=I.list hq
  have hlen:=r'.length
  exact Calls.call_len_list pl.isList (by simp only[Ia] <;> omega) ⟨.int ys.length,H,I.tok _,⟨s.toks+1,by rw[Ia,hlen]⟩,q⟩
 ·obtain⟨its,r',pl,hz⟩:=I.tuple hq
  have hlen:=r'.length
  exact len_tuple pl (by simp only[Ia] <;> omega) ⟨.int ys.length,H,I.tok _,⟨s.toks+1,by rw[Ia,hlen]⟩,q⟩
theorem call_len_str:jeb X (.builtin "len") (λxs H Q=>∃z,xs=[.str z]/\z.length<=sizeLine/\Q (.int z.length) H):=by
 intro pins s σ H xs us Q I r h
 obtain⟨z,rfl,hz,q⟩:=h
 obtain⟨u,rfl,t,rfl⟩:=jet r
 have hn:=jfm
 exact len_str (by omega) ⟨.int z.length,H,I.tok _,⟨_,rfl⟩,q⟩
theorem jax:jeb X (.type "list") (λxs H Q=>∃p ys,xs=[.ref p]/\(SqL X.K H p ys\/SqT X.K H p ys)/\∀l,H l=none->Q (.ref l) (upd H l (.lst ys))):=by
 intro pins s σ H xs us Q I r h
 obtain⟨p,ys,rfl,hq,q⟩:=h
 obtain⟨u,rfl,rx⟩:=jet r
 cases rx
 have fin:∀(its:List Value),Vals ys its->ys.length<=sizeLine->∀(h':Heap)(c':Nat),(∀b o',s.heap.get? b=some o'->h'.get? b=some o') ->
   h'.get? s.heap.objs.size=some {cls:=.type "list",dict:=none,data:=.seq its.toArray c',slots:=#[]}->EP X pins σ Q (.ref s.heap.objs.size) {s with heap:=h'}:=λits r' hz h' c' kp e =>
  ⟨.ref s.heap.objs.size,_,I.laid (t':=s.toks) kp (Al _) (show ObjOk X.prog X.w _ h' _ (.lst ys)from⟨hz,its,c',r',e⟩),rfl,q _ (I.hok.fresh (Al _))⟩
 rcases hq with hq|hq
 ·obtain⟨its,r',pl,hz⟩:=I.list hq
  have hlen:=r'.length
  obtain⟨o,ho,hc,n,hd⟩:=pl.isList
  exact call_list_seq p (.inl rfl) ho hc hd (λh' c' kp e=>fin its r' hz h' c' kp e) (by simp only[Ia] <;> omega)
 ·obtain⟨its,r',pl,hz⟩:=I.tuple hq
  have hlen:=r'.length
  obtain⟨o,ho,hc,n,hd⟩:=pl
  exact call_list_seq p (.inr rfl) ho hc hd (λh' c' kp e=>fin its r' hz h' c' kp e) (by simp only[Ia] <;> omega)
theorem jat:jeb X (.type "tuple") (λxs H Q=>∃p ys,xs=[.ref p]/\((SqL X.K H p ys/\∀l,H l=none->Q (.ref l) (upd H l (.tup ys)))\/(SqT X.K H p ys/\Q (.ref p) H))):=by
 intro pins s σ H xs us Q I r h
 obtain⟨p,ys,rfl,h⟩:=h
 obtain⟨u,rfl,rx⟩:=jet r
 cases rx
 rcases h with⟨hq,q⟩|⟨hq,q⟩
 ·obtain⟨its,r',pl,hz⟩:=I.list hq
  have hlen:=r'.length
  refine call_tuple_list pl.isList (λh' kp=>?_) (by simp only[Ia] <;> omega)
  have I1:Inv X pins σ H {s with heap:=h'}:=I.kept (t':=s.toks) kp
  have I2:Inv X pins σ (upd H h'.objs.size (.tup ys)) {s with heap:=h'.push {cls:=.type "tuple",data:=.seq its.toArray}} :=
   I1.laid (t':=s.toks) (λb o e=>Ad _ e) (Al _) (show ObjOk X.prog X.w _ _ _ (.tup ys)from⟨hz,its,r',IsTup.new _ _⟩)
  exact⟨.ref h'.objs.size,_,I2,rfl,q _ (I1.hok.fresh (Al _))⟩
 ·obtain⟨its,r',pl,hz⟩:=I.tuple hq
  exact call_tuple_same pl ⟨.ref p,H,I,rfl,q⟩
def tyV(K:PySem.W.Frag)(T:String)(x:V)(H:Hp):Prop:=match x with
 |.str _=>T="str"
 |.int _=>T="int"
 |.ref p=>(T="list"/\∃xs,SqL K H p xs)\/(T="tuple"/\∃o,K.lookup p=some o/\o.cls=.type "tuple"/\o.dict=none) \/
   (T="dict"/\((∃kvs,H p=some (.dK kvs))\/∃kvs,H p=some (.dT kvs)))\/(T="set"/\∃S n,H p=some (.set S n))
 |_=>False
theorem jou{pins:List (Addr×Obj)}{σ:St}{H:Hp}{s:Shared}{T:String}{x:V}{v:Value}(I:Inv X pins σ H s)(r:RelV x v)(ty:tyV X.K T x H) :
  s.TypeIs v T/\∀a,v=.ref a->∃ob,s.heap.get? a=some ob/\ob.dict=none:=by
 cases x with
 |str z =>
  obtain⟨t,rfl⟩:=r
  cases(show T="str"from ty)
  exact⟨typeIs_str s z t,λ_ e=>nomatch e⟩
 |int i =>
  obtain⟨t,rfl⟩:=r
  cases(show T="int"from ty)
  exact⟨typeIs_int s i t,λ_ e=>nomatch e⟩
 |ref p =>
  cases r
  rcases ty with⟨rfl,xs,hq⟩|⟨rfl,o,hk,hc,hd⟩|⟨rfl,hk⟩|⟨rfl,S,n,hk⟩
  ·obtain⟨its,_,pl,_⟩:=I.list hq
   refine⟨pl.isList.typeIs,λa e=>?_⟩
   cases e
   obtain⟨o,n,e,c,hd,_⟩:=pl
   exact⟨o,e,hd⟩
  ·refine⟨⟨o,I.kIn p o hk,hc⟩,λa e=>?_⟩
   cases e
   exact⟨o,I.kIn _ o hk,hd⟩
  ·have z:∃o,s.heap.get? p=some o/\o.ExactDict:=by
    rcases hk with⟨kvs,hk⟩|⟨kvs,hk⟩
    ·obtain⟨_,_,_,_,o,_,_,e,ex,_⟩:=I.hok p _ hk
     exact⟨o,e,ex⟩
    ·obtain⟨_,_,_,_,o,_,_,e,ex,_⟩:=I.hok p _ hk
     exact⟨o,e,ex⟩
   obtain⟨o,e,ex⟩:=z
   refine⟨⟨o,e,ex.1⟩,λa e2=>?_⟩
   cases e2
   exact⟨o,e,ex.2.1⟩
  ·obtain⟨o,_,_,_,e,ex,_⟩:=I.hok p _ hk
   refine⟨⟨o,e,ex.1⟩,λa e2=>?_⟩
   cases e2
   exact⟨o,e,ex.2.1⟩
 |_=>exact False.elim ty
def tBM(K:PySem.W.Frag)(T:String)(r:V->List V->Hp->VK->Prop)(to:TE)(t:TA):TE:=λσ H Q=>to σ H λx H1=>tyV K T x H1/\t σ H1 λxs H2=>r x xs H2 Q
variable{o e:Expr}{es:List Expr}{to:TE}{t:TA}{name:Str}{apos cpos:Pos}{T id:String}{r:V->List V->Hp->VK->Prop}
theorem pe_bm(pa:PlainAttrs T)(slot:Slot T name id)(hty:typeOf (.builtin id)=pure (.type "method_descriptor"))(hm:MtR X id r)(ho:PE X o to)(ha:PA X (e::es) t)
  (hbase:attributeBase o name X.env (eval o X.env)=eval o X.env:=by rfl)
  (hfew:((backTo cpos (starEach (e::es) X.env)).all (λx=>!x.1) && (backToKw cpos (keywordEach [] X.env)).all (λx=>x.1.isSome)
   && decide ((e::es).length+([]:List Keyword).length+(if([]:List Keyword).isEmpty then 0 else 1)<30))=true:=by rfl)
  (hline:(apos.endLine == cpos.line)=true:=by rfl) (hs:starEach (e::es) X.env=(false,eval e X.env)::starEach es X.env:=by rfl) (hplain:(backTo cpos (starEach es X.env)).any (·.1)=false:=by rfl) :
  PE X (.Call (.Attribute o name apos) (e::es) [] cpos) (tBM X.K T r to t):=by
 intro pins s σ H Q I h
 refine wpAny_Call_method_late hbase hfew hline rfl (thn (ho pins s σ H _ I h) λv s1 ⟨x,H1,I1,r1,ty,q1⟩=>?_)
 obtain⟨h1,h2⟩:=jou I1 r1 ty
 refine⟨T,id,pa,slot,hty,h1,h2,?_⟩
 have hA:=ha cpos pins s1 σ H1 _ I1 q1
 rw[hs]at hA⊢
 refine Calls.callWith_builtin (by show(false || (backTo cpos (starEach es X.env)).any (·.1))=false;rw[hplain] <;> rfl) (Calls.evalArgs_plain ?_)
 exact thn hA λus s2 ⟨vs,H2,I2,r2,q2⟩=>hm pins s2 σ H2 x vs v us Q I2 r1 r2 q2
end
def MtM(X:Cx)(id:String)(r:V->List V->Hp->VK->Prop):Prop :=
 ∀(pins:List (Addr×Obj))(s:Shared)(σ:St)(H:Hp)(x:V)(xs:List V)(v:Value)(us:List Value)(Q:VK),Inv X pins σ H s->RelV x v->Vals xs us->r x xs H Q ->
  wpAny (model X.prog X.w) X.A (call (.builtin id) (v::us)) (EP X pins σ Q) X.xe s
theorem Vals.one{x:V}{us:List Value}(h:Vals [x] us):∃u,us=[u]/\RelV x u:=jet h
theorem Vals.eraseIdx:∀{xs:List V}{us:List Value}(i:Nat),Vals xs us->Vals (xs.eraseIdx i) (us.eraseIdx i)
 |_,_,_,.nil=>.nil
 |_,_,0,.cons _ t=>t
 |_,_,i+1,.cons r t=>.cons r (Vals.eraseIdx i t)
theorem Vals.rep{xs:List V}{us:List Value}(h:Vals xs us):∀k:Nat,Vals (List.replicate k xs).flatten (List.replicate k us).flatten
 |0=>.nil
 |k+1=>by
  rw[List.replicate_succ,List.replicate_succ,List.flatten_cons,List.flatten_cons]
  exact Vals.append h (Vals.rep h k)
theorem jia{α:Type}:∀(l:List α)(i:Nat),(l.eraseIdx i).length<=l.length
 |[],_=>Al _
 |_::_,0=>Nat.le_succ _
 |_::r,i+1=>Nat.succ_le_succ (jia r i)
theorem jh8(its:List Value):∀(k:Nat)(acc:List Value),
  List.foldl (λx1 x2=>x1++x2) acc.toArray (List.replicate k its.toArray)=(acc++(List.replicate k its).flatten).toArray
 |0,acc=>by simp
 |k+1,acc=>by
  have e:acc.toArray++its.toArray=(acc++its).toArray:=by simp
  have e2:(acc++its)++(List.replicate k its).flatten=acc++(List.replicate (k+1) its).flatten:=by
   rw[List.replicate_succ,List.flatten_cons,A8]
  rw[<-e2,<-jh8 its k (acc++its),<-e,List.replicate_succ,List.foldl_cons]
section
variable{X:Cx}{pins:List (Addr×Obj)}{σ:St}{H:Hp}{s:Shared}{l b:Addr}{xs ys zs:List V}
theorem Inv.lset{its its':List Value}{n:Nat}{f:Array Value->Array Value}{t':Nat}(I:Inv X pins σ H s)(hH:H l=some (.lst xs))
  (e:s.heap.get? l=some {cls:=.type "list",data:=.seq its.toArray n}) (hf:f its.toArray=its'.toArray) (hv:Vals ys its') (hz:ys.length<=sizeLine) :
  Inv X pins σ (upd H l (.lst ys)) {s with heap:=s.heap.update l (Obj.mapSeq f),toks:=t'}:=by
 have q:=PySem.IsL.update e f
 rw[hf]at q
 refine I.write (x:=l) (e:=l) (by rw[hH];exact trivial) (.inl rfl) (λb' u hb hu=>(Og s.heap (Obj.mapSeq f) (O3 hb)).trans hu) ⟨_,q⟩ ?_
 exact⟨hz,its',_,hv,q⟩
theorem Inv.lnew{its:List Value}{t':Nat}(I:Inv X pins σ H s)(hv:Vals ys its)(hz:ys.length<=sizeLine) :
  Inv X pins σ (upd H s.heap.objs.size (.lst ys)) {s with heap:=s.heap.push {cls:=.type "list",data:=.seq its.toArray},toks:=t'} :=
 I.laid (λ_ _ q=>Ad _ q) (Al _) ⟨hz,its,0,hv,Ir _ rfl⟩
theorem Inv.fresh(I:Inv X pins σ H s):H s.heap.objs.size=none:=I.hok.fresh (Al _)
theorem Inv.lstM(I:Inv X pins σ H s)(hH:H l=some (.lst xs)):xs.length<=sizeLine/\∃(its:List Value)(n:Nat),Vals xs its/\xs.length=its.length/\s.heap.get? l=some {cls:=.type "list",data:=.seq its.toArray n}:=by
 obtain⟨z,its,n,r,e⟩:=I.hok l _ hH
 exact⟨z,its,n,r,r.length,e⟩
theorem jmr{n:Nat}(h:n<=sizeLine):Builtin.List.listTooLong n=false:=by
 unfold Builtin.List.listTooLong
 exact Ox (by omega)
end
section
variable{X:Cx}
def jnx:V->List V->Hp->VK->Prop:=λx vs H Q=>∃l xs y,x=.ref l/\vs=[y]/\H l=some (.lst xs)/\xs.length<sizeLine/\Q .non (upd H l (.lst (xs++[y])))
theorem jay:MtM X "list.append" jnx:=by
 intro pins s σ H x vs v us Q I rx rv h
 obtain⟨l,xs,y,rfl,rfl,hH,hz,q⟩:=h
 cases rx
 obtain⟨u,rfl,ru⟩:=rv.one
 obtain⟨z,its,n,r,hl,e⟩:=I.lstM hH
 refine call_meets F.slot_list_append ⟨_,e,rfl⟩ F.entry_list_append (F.args_list_append_2 _ _) (PySem.list_append l its.toArray n u (by rw[Ia];omega)) ⟨e,?_⟩
 refine⟨.non,_,I.lset (its':=its++[u]) hH e (by simp) (r.append (.cons ru .nil)) ?_,rfl,q⟩
 rw[Ae,List.length_singleton]
 omega
def jop:V->List V->Hp->VK->Prop:=λx vs H Q=>∃l xs i k y,x=.ref l/\vs=[.int i]/\H l=some (.lst xs)/\-(2^63)<=i/\i<2^63/\seqIndex? i xs.length=some k/\xs[k]?=some y/\Q y (upd H l (.lst (xs.eraseIdx k)))
theorem mt_popAt:MtM X "list.pop" jop:=by
 intro pins s σ H x vs v us Q I rx rv h
 obtain⟨l,xs,i,k,y,rfl,rfl,hH,h1,h2,hk,hy,q⟩:=h
 cases rx
 obtain⟨u,rfl,ru⟩:=rv.one
 obtain⟨t,rfl⟩:=ru
 obtain⟨z,its,n,r,hl,e⟩:=I.lstM hH
 obtain⟨w,hw,rw'⟩:=r.get hy
 refine call_meets F.slot_list_pop ⟨_,e,rfl⟩ F.entry_list_pop (F.args_list_pop_2 _ _)
  (MeetsSeq.list_pop_at l its.toArray n i t k w (fitsIndex_both h1 h2) (by rw[Ia,<-hl];exact hk) (by rw[<-O1];exact hw) (by rw[Ia];omega)) ⟨e,?_⟩
 refine⟨y,_,I.lset (its':=its.eraseIdx k) hH e ?_ (r.eraseIdx k) ?_,rw',q⟩
 ·show its.toArray.eraseIdxIfInBounds k=(its.eraseIdx k).toArray
  rw[List.eraseIdxIfInBounds_toArray]
 ·have:=jia xs k
  omega
def rCat:R2:=λx y H Q=>∃l b xs zs,x=.ref l/\y=.ref b/\H l=some (.lst xs)/\H b=some (.lst zs)/\xs.length+zs.length<=sizeLine/\∀p,H p=none->Q (.ref p) (upd H p (.lst (xs++zs)))
theorem op_cat:OpR X (binaryOp .Add) rCat:=by
 intro pins s σ H x y v u Q I rx ry h
 obtain⟨l,b,xs,zs,rfl,rfl,hH,hB,hz,q⟩:=h
 cases rx
 cases ry
 obtain⟨z,its,n,r,hl,e⟩:=I.lstM hH
 obtain⟨z2,its2,n2,r2,hl2,e2⟩:=I.lstM hB
 refine PySem.P.add_list e e2 ?_ (by rw[Ia,Ia];omega)
 have ea:its.toArray++its2.toArray=(its++its2).toArray:=by simp
 rw[ea]
 exact⟨.ref _,_,I.lnew (t':=s.toks) (r.append r2) (by rw[Ae];omega),rfl,q _ I.fresh⟩
def rRep:R2:=λx y H Q=>∃l k xs,x=.ref l/\y=.int k/\H l=some (.lst xs)/\-(2^63)<=k/\k<2^63/\xs.length*k.toNat<=sizeLine /\
 ∀p,H p=none->Q (.ref p) (upd H p (.lst (List.replicate k.toNat xs).flatten))
theorem jns{α:Type}(xs:List α)(k:Nat):(List.replicate k xs).flatten.length=k*xs.length:=by
 induction k with
 |zero=>simp
 |succ k ih=>rw[List.replicate_succ,List.flatten_cons,Ae,ih,Ya,Nat.add_comm]
theorem op_rep:OpR X (binaryOp .Mult) rRep:=by
 intro pins s σ H x y v u Q I rx ry h
 obtain⟨l,k,xs,rfl,rfl,hH,h1,h2,hz,q⟩:=h
 cases rx
 obtain⟨t,rfl⟩:=ry
 obtain⟨z,its,n,r,hl,e⟩:=I.lstM hH
 have hlen:its.toArray.size*k.toNat<=sizeLine:=by rw[Ia,<-hl];exact hz
 have hcap:¬its.toArray.size*k.toNat>(2^63-1) / 8:=by
  have:(sizeLine:Nat)<=(2^63-1) / 8:=by decide
  omega
 have hfit:¬(!Builtin.List.listFitsIndex k)=true:=by
  rw[fitsIndex_both h1 h2]
  exact Ix
 have hlong:¬Builtin.List.listTooLong (its.toArray.size*k.toNat)=true:=by
  rw[jmr hlen]
  exact Ix
 have hnew:List.foldl (λx1 x2=>x1++x2) #[] (List.replicate (if its.toArray.isEmpty=true then 0 else k.toNat) its.toArray)=(List.replicate k.toNat its).flatten.toArray:=by
  have f0:∀m:Nat,List.foldl (λx1 x2=>x1++x2) #[] (List.replicate m its.toArray)=(List.replicate m its).flatten.toArray:=λm=>by
   have:=jh8 its m []
   rw[List.nil_append]at this
   exact this
  rw[f0]
  cases its with
  |nil=>simp
  |cons a r'=>rw[Ah (by simp)]
 refine wpAny_binaryOp_repeat_ref (T:="list") (U:="int") (by decide) ⟨_,e,rfl⟩ (λs'=>typeIs_int s' k t) noFill_list_mul F.fills_int_mul F.slot_int_rmul repeat_list F.slot_int_index.lookup
  (call_meets F.slot_int_rmul (typeIs_int s k t) F.entry_int_rmul (F.args_int_rmul_2 _ _) (int___rmul___int_list k t l its.toArray n)
   ⟨e,rfl,⟨_,e,rfl⟩,call_meets F.slot_list_mul ⟨_,e,rfl⟩ F.entry_list_mul (F.args_list_mul_2 _ _) (AutoListH.list___mul___list_int_3 l its.toArray n k t hfit hcap hlong) ⟨e,?_⟩⟩)
 rw[hnew]
 exact⟨.ref _,_,I.lnew (t':=s.toks) (r.rep k.toNat) (by rw[jns,U7];exact hz),rfl,q _ I.fresh⟩
end
end L2
namespace Att
open PySem PySem.W PySem.Calls PyProof.Rows
theorem jhb{P:Params}{h:Heap}:∀(ns:List Int)(vs:List Value),WellAll P h vs (ns.map WData.int)->IntsAre vs ns:=by
 intro ns
 induction ns with
 |nil =>
  intro vs w
  rw[Au]at w
  cases w
  exact .nil
 |cons n ns ih =>
  intro vs w
  rw[Ak]at w
  cases w with
  |cons a b =>
   cases a
   exact .cons _ _ (ih _ b)
theorem jl5{l:OpenLaw}{n:Nat}(hn:l.most=some n){P:Params}{h:Heap}{args:List WData}{vals:List Value}
  (hpre:l.row.toRowW.claim.pre args=true) (hwl:WellAll P h vals args) :
  ∃a vs ns,vals=[Value.ref a]/\args=[WData.list (ns.map WData.int)]/\h.get? a=some {cls:=.type "list",data:=.seq vs.toArray}/\IntsAre vs ns/\ns.length<=n:=by
 have hsh:WShape.hasAll [] args [.list .int]=true:=(pre_splitW hpre).1
 have hc:l.pre.holds [] {args:=args}=true:=(pre_splitW hpre).2
 obtain⟨d,r,rfl,h1,h2⟩:=hasAllW_cons hsh
 obtain rfl:=hasAllW_nil h2
 obtain⟨xs,rfl,h3⟩:=hasW_list h1
 obtain⟨ns,rfl⟩:=items_int h3
 have hlen:ns.length<=n:=by
  unfold OpenLaw.pre at hc
  have h4:(WTm.not (.lt (.lit (.int (n:Int))) (.len (.arg 0)))).holds [] {args:=[.list (ns.map .int)]}=true:=by
   have h4:=(holds_andW hc).1
   rw[hn]at h4
   exact h4
  have h5:=condW_of h4 (w_not (w_lt w_lit (w_len_list (w_arg rfl))))
  rw[Aa]at h5
  refine Nat.le_of_not_lt λq=>?_
  have q':(n:Int)<((ns.length:Nat):Int):=by omega
  first
   |(rw[decide_eq_true q']at h5;exact absurd h5 (by decide))
   |(simp at h5;omega)
 cases hwl with
 |cons w1 w2 =>
  cases w2
  cases w1 with
  |list ho hall=>exact⟨_,_,ns,rfl,rfl,ho,jhb ns _ hall,hlen⟩
theorem post_true(l:OpenLaw)(args:List WData):l.row.toRowW.claim.post args (.bool true) args=true :=
 postW_of (r:=l.row.toRowW) (X:=(true == true))
  (show WShape.has [] (.bool true) .bool=true by first|rfl|decide|simp[WShape.has,WShape.arms,WShape.armsAll])
  (show(WTm.eq .res (.lit (.bool true))).value [] {args:=args,res:=some (.bool true),after:=args}=some (.bool (true == true))from w_eq_bool (w_res rfl) w_lit) rfl
theorem attach_call{l:OpenLaw}{n:Nat}{q:Program}{loose:List Str}{XP:(Str->Option Value)->Heap->Prop}{YP:World->Heap->Prop}{d:DefRec}
  (hn:l.most=some n) (hdf:d.params.defaults=[])
  (call:∀(w:World)(s₀ s₁:Shared)(mg mb:Str->Option Value)(fa:Addr)(o:Obj)(pm cd doc:Value)(a:Addr)(vs:List Value)(ns:List Int),
   Ground q loose [] XP w s₀ mg mb s₁.heap->YP w s₁.heap ->
   s₁.heap.get? fa=some o->o.data=.func (docDef d.name d.params d.body d.scope pm cd doc)->s₁.heap.CodeRec cd d.name->mg d.name=some (.ref fa) ->
   s₁.heap.get? a=some {cls:=.type "list",data:=.seq vs.toArray}->IntsAre vs ns->ns.length<=n->s₁.gens=#[] ->
   codeAny (model l.prog w) callerA (.call (.ref fa) ⟨[.ref a],[]⟩) (λr s'=>r=.ok (.ret (.bool true))/\OldK s₁.heap s'.heap/\s'.os=s₁.os/\AllBare s'.gens) s₁) :
  WalkO q loose XP YP l.row.toRowW d [] (λf vs=>PySem.call f vs):=by
 intro w s₀ s₁ mg mb G Y fa o pm cd doc dV kV ho hd hcd hD hmg hg args vals as hpre hlay hrd hwl hlo
 obtain rfl:dV=.none:=Dflts.none hD hdf
 obtain rfl:kV=.none:=Dflts.noKw hD
 obtain⟨a,vs,ns,rfl,rfl,hobj,hints,hlen⟩:=jl5 hn hpre hwl
 refine enter_call (W8 (call w s₀ s₁ mg mb fa o pm cd doc a vs ns G Y ho (fd_plain hd) hcd hmg hobj hints hlen hg) λr s' hq=>?_)
 obtain⟨rfl,h2,h3,h4⟩:=hq
 exact⟨.inl ⟨.bool true,.bool true,[],rfl,λ_=>rfl,.bool true,post_true l _,λ_=>⟨List.Pairwise.nil,λ_ hm=>(nomatch hm)⟩⟩,h2,h3,h4⟩
end Att
namespace L2
open PySem PySem.Spec PyProof.Rows
theorem jik:∀{vs:List Value}{ns:List Int},IntsAre vs ns->Vals (ns.map V.int) vs
 |_,_,.nil=>.nil
 |_,_,.cons n t h=>.cons ⟨t,rfl⟩ (jik h)
def j6(s:Stmt):Arguments:=match s with
 |.FunctionDef _ a _ _ _ _ _ _ _ _=>a
 |_=>{posonlyargs:=[],args:=[],vararg:=none,kwonlyargs:=[],kw_defaults:=[],kwarg:=none,defaults:=[]}
def jt(s:Stmt):List Stmt:=match s with
 |.FunctionDef _ _ b _ _ _ _ _ _ _=>b
 |_=>[]
def jh(s:Stmt):Scope:=match s with
 |.FunctionDef _ _ _ _ _ _ sc _ _ _=>sc
 |_=>{kind:=.function,names:=[],isGenerator:=false,isCoroutine:=false}
abbrev CX0:CXT:=λ_ _ _ _ _ _=>False
abbrev E0:XK:=λ_ _ _=>False
theorem jy{X:Cx}:jfv CX0 X E0:=λ_ _ _ _ _ _ _ h=>h.elim
structure Fun(K:PySem.W.Frag)(x qual:Str)(st:Stmt)(f:Addr)(fd:FuncData):Prop where
 ex:∃(oc:Value)(od:Option Addr)(kV doc pm:Value)(an:Option Addr)(cdv ct:Value)(osl:Array (Option Value)),
  fd=PySem.W.fnOf x qual (j6 st) (jt st) (jh st) .none kV doc pm an cdv ct/\K.lookup f=some ⟨oc,od,.func fd,osl⟩/\PySem.W.codeIn K cdv qual=true
 kp:PySem.W.keepIn K (.ref f)=true
section
variable{P:Program}{w:World}{K:PySem.W.Frag}{mg:Str->Option Value}{base:Heap}
theorem Fun.ok{x qual:Str}{st:Stmt}{f:Addr}{fd:FuncData}{N ps:List Str}{k:Nat}{sp:Sp}(F:Fun K x qual st f fd)(S:FnScope N ps (jh st))(len:∀vs H Q E,sp vs H Q E->vs.length=ps.length)
  (hbody:∀(cdv:Value)(A:Around)(outer:List Env)(s:Shared)(H:Hp)(vs:List V)(Q:VK)(E:XK),Room k (A.deeper (envOfC qual (jh st) s.heap.objs.size f cdv))->sp vs H Q E ->
   ∃t,PSs (cxOf CX0 P w K mg base N qual (jh st) f cdv A outer s H E).nox (jt st) t/\t {nx:=λ_ H'=>Q .non H',rt:=Q} (start N vs) H):FnOk P w K mg base CX0 (k+1) f fd ps sp:=by
 obtain⟨oc,od,kV,doc,pm,an,cdv,ct,osl,rfl,lk,hcd⟩:=F.ex
 refine jip lk hcd S len λA outer s H vs Q E hr hsp=>?_
 obtain⟨t,h,q⟩:=hbody cdv A outer s H vs Q E hr hsp
 exact⟨t,h.nox,q⟩
theorem Fun.binds{x qual:Str}{st:Stmt}{f:Addr}{fd:FuncData}{ps:List Str}(F:Fun K x qual st f fd)
  (h:∀(kV doc pm:Value)(an:Option Addr)(cdv ct:Value)(us:List Value),us.length=ps.length->bindArgs (PySem.W.fnOf x qual (j6 st) (jt st) (jh st) .none kV doc pm an cdv ct) ⟨us,[]⟩=pure (ps.zip us)):Binds K fd ps []:=by
 obtain⟨oc,od,kV,doc,pm,an,cdv,ct,osl,rfl,lk,hcd⟩:=F.ex
 exact .all (h kV doc pm an cdv ct)
theorem jd2{x qual:Str}{st:Stmt}{f:Addr}{oc:Value}{od an:Option Addr}{osl:Array (Option Value)}{kV doc pm cdv ct:Value}(l:K.lookup f=some ⟨oc,od,.func (PySem.W.fnOf x qual (j6 st) (jt st) (jh st) .none kV doc pm an cdv ct),osl⟩)
  (c:PySem.W.codeIn K cdv qual=true) (k:PySem.W.keepIn K (.ref f)=true):Fun K x qual st f (PySem.W.fnOf x qual (j6 st) (jt st) (jh st) .none kV doc pm an cdv ct):=⟨⟨oc,od,kV,doc,pm,an,cdv,ct,osl,rfl,l,c⟩,k⟩
end
section
variable{X:Cx}
theorem pv(i:Nat){x:Str}{pos:Pos}(hN:X.N[i]?=some x:=by rfl)(hv:Vis X.env.scope x:=by first|exact Or.inl rfl|exact Or.inr (Or.inl rfl)|exact Or.inr (Or.inr rfl))(hd:(x == ("__debug__":Str))=false:=by decide)
  (hcd:(x == ("__classdict__":Str))=false:=by decide):PE X (.Name x pos) (tVar i):=jbx hN hv hd hcd
end
theorem ite2{c A B:Prop}[Decidable c](h1:c->A)(h2:¬c->B):if c then A else B:=by
 by_cases h:c
 ·rw[Am h]
  exact h1 h
 ·rw[Ah h]
  exact h2 h
section
variable{κ:Type}[DecidableEq κ]
def valV(kvs:List (κ×V))(k:κ):Option V:=(kvs.find? λkv=>decide (kv.1=k)).map (·.2)
def putK(kvs:List (κ×V))(k:κ)(v:V):List (κ×V) :=
 if(kvs.any λkv=>decide (kv.1=k))=true then kvs.map (λkv=>if kv.1=k then(kv.1,v)else kv)else kvs++[(k,v)]
theorem jef{p:κ×V}{r:List (κ×V)}{k:κ}(e:p.1=k):valV (p::r) k=some p.2:=by simp[valV,List.find?_cons,e]
theorem jee{p:κ×V}{r:List (κ×V)}{k:κ}(e:¬p.1=k):valV (p::r) k=valV r k:=by simp[valV,List.find?_cons,e]
theorem jfu(k:κ):∀kvs:List (κ×V),(kvs.any λkv=>decide (kv.1=k))=(valV kvs k).isSome
 |[]=>rfl
 |p::r=>by
  rw[List.any_cons]
  by_cases e:p.1=k
  ·simp only[jef e,decide_eq_true e,Bool.true_or,Option.isSome_some]
  ·rw[jee e,Ox e,Bool.false_or];exact jfu k r
theorem jjn(k j:κ)(y:V):∀kvs:List (κ×V),valV (kvs.map λkv=>if kv.1=k then(kv.1,y)else kv) j=(valV kvs j).map λx=>if j=k then y else x
 |[]=>rfl
 |p::r=>by
  have ih:=jjn k j y r
  rw[Ak]
  by_cases h:p.1=k
  ·rw[Am h]
   by_cases e:p.1=j
   ·rw[jef (p:=(p.1,y)) e,jef e,Option.map_some,Am (e.symm.trans h)]
   ·rw[jee (p:=(p.1,y)) e,jee e,ih]
  ·rw[Ah h]
   by_cases e:p.1=j
   ·rw[jef (p:=p) e,jef e,Option.map_some,Ah (λz=>h (e.trans z))]
   ·rw[jee (p:=p) e,jee e,ih]
theorem jij(k j:κ)(y:V):∀kvs:List (κ×V),valV kvs k=none->valV (kvs++[(k,y)]) j=if j=k then some y else valV kvs j
 |[],_=>by
  by_cases e:k=j
  ·rw[Am e.symm];exact jef (p:=(k,y)) e
  ·rw[Ah (λz=>e z.symm)];exact jee (p:=(k,y)) e
 |p::r,hn=>by
  rw[List.cons_append]
  have hk:¬p.1=k:=λz=>by rw[jef z]at hn;cases hn
  rw[jee hk]at hn
  have ih:=jij k j y r hn
  by_cases e:p.1=j
  ·rw[jef e,jef e,Ah (λz=>hk (e.trans z))]
  ·rw[jee e,jee e,ih]
theorem jgx(kvs:List (κ×V))(k j:κ)(y:V):valV (putK kvs k y) j=if j=k then some y else valV kvs j:=by
 unfold putK
 by_cases a:(kvs.any λkv=>decide (kv.1=k))=true
 ·rw[Am a,jjn]
  rw[jfu]at a
  by_cases e:j=k
  ·obtain⟨x,hx⟩:=Option.isSome_iff_exists.mp a
   rw[Am e,e,hx,Option.map_some,Am rfl]
  ·rw[Ah e]
   cases valV kvs j with
   |none=>rfl
   |some x=>rw[Option.map_some,Ah e]
 ·rw[Ah a]
  refine jij k j y kvs ?_
  rw[jfu]at a
  cases q:valV kvs k with
  |none=>rfl
  |some x=>rw[q]at a;exact(a rfl).elim
theorem jev(kvs:List (κ×V))(k:κ)(v:V):(putK kvs k v).length<=kvs.length+1:=by
 unfold putK
 split
 ·rw[Aa];omega
 ·rw[Ae,List.length_cons,List.length_nil];omega
theorem RelO.isSome_eq{o:Option V}{u:Option Value}(r:RelO o u):o.isSome=u.isSome:=by
 cases o with
 |none=>cases u with
  |none=>rfl
  |some _=>exact(show False from r).elim
 |some _=>cases u with
  |none=>exact(show False from r).elim
  |some _=>rfl
theorem KV.val{kvs:List (κ×V)}{vs:List (κ×Value)}(r:KV kvs vs)(k:κ):RelO (valV kvs k) (valueAt vs k):=by
 unfold KV at r
 induction r with
 |nil=>exact True.intro
 |@cons p q ps qs h t ih =>
  obtain⟨h1,h2⟩:=h
  by_cases e:p.1=k
  ·have e':q.1=k:=h1.symm.trans e
   have b:valueAt (q::qs) k=some q.2:=by simp[valueAt,List.find?_cons,e']
   rw[jef e,b];exact h2
  ·have e':¬q.1=k:=λz=>e (h1.trans z)
   have b:valueAt (q::qs) k=valueAt qs k:=by simp[valueAt,List.find?_cons,e']
   rw[jee e,b];exact ih
theorem KV.any{kvs:List (κ×V)}{vs:List (κ×Value)}(r:KV kvs vs)(k:κ):(kvs.any λkv=>decide (kv.1=k))=vs.any λkv=>decide (kv.1=k):=by
 unfold KV at r
 induction r with
 |nil=>rfl
 |cons h t ih=>rw[List.any_cons,List.any_cons,ih,h.1]
theorem KV.repl{kvs:List (κ×V)}{vs:List (κ×Value)}(r:KV kvs vs)(k:κ){y:V}{u:Value}(ry:RelV y u) :
  KV (kvs.map λkv=>if kv.1=k then(kv.1,y)else kv) (vs.map λkv=>if kv.1=k then(kv.1,u)else kv):=by
 unfold KV at r⊢
 induction r with
 |nil=>exact .nil
 |@cons p q ps qs h t ih =>
  rw[Ak,Ak]
  refine .cons ?_ ih
  obtain⟨h1,h2⟩:=h
  by_cases e:p.1=k
  ·rw[Am e,Am (h1.symm.trans e)];exact⟨h1,ry⟩
  ·rw[Ah e,Ah (λz=>e (h1.trans z))];exact⟨h1,h2⟩
theorem KV.put{kvs:List (κ×V)}{vs:List (κ×Value)}(r:KV kvs vs)(k:κ){y:V}{u:Value}(ry:RelV y u):KV (putK kvs k y) (stored vs k u):=by
 unfold putK stored
 rw[r.any k]
 by_cases e:(vs.any λkv=>decide (kv.1=k))=true
 ·rw[Am e,Am e];exact r.repl k ry
 ·rw[Ah e,Ah e];exact Paired.snoc r ⟨rfl,ry⟩
theorem KV.length{kvs:List (κ×V)}{vs:List (κ×Value)}(r:KV kvs vs):kvs.length=vs.length:=Ou r
end
theorem jiq{P:Program}{w:World}{k:Key}{u:Value}(r:RelV (kV k) u):(jd0 P w).is k u=true:=by
 cases k with
 |inl i=>obtain⟨t,e⟩:=(show ∃t,u=Value.int i t from r);subst e;exact jju P w i t
 |inr x=>obtain⟨t,e⟩:=(show ∃t,u=Value.str x t from r);subst e;exact jjv P w x t
theorem jh9{P:Program}{w:World}:∀{ks:List Key}{us:List Value},Vals (ks.map kV) us->ItemsAre (jd0 P w) ks us
 |[],_,r=>by rw[Au]at r;cases r;exact .nil
 |k::ks,_,r=>by
  rw[Ak]at r
  cases r with
  |cons h t=>exact .cons (jiq h) (jh9 t)
abbrev KT(H:Hp):List (List Key×V)->List (List Key×Addr×Value)->Prop:=Paired λp q=>p.1=q.1/\H q.2.1=some (.tup (p.1.map kV))/\RelV p.2 q.2.2
theorem KT.val{H:Hp}{kvs:List (List Key×V)}{xs:List (List Key×Addr×Value)}(r:KT H kvs xs)(k:List Key):RelO (valV kvs k) ((atKey xs k).map (·.2)):=by
 induction r with
 |nil=>exact True.intro
 |@cons p q ps qs h t ih =>
  obtain⟨h1,_,h2⟩:=h
  by_cases e:p.1=k
  ·have e':q.1=k:=h1.symm.trans e
   have b:atKey (q::qs) k=some q.2:=by simp[atKey,List.find?_cons,e']
   rw[jef e,b];exact h2
  ·have e':¬q.1=k:=λz=>e (h1.trans z)
   have b:atKey (q::qs) k=atKey qs k:=by simp[atKey,List.find?_cons,e']
   rw[jee e,b];exact ih
theorem KT.repl{H:Hp}{kvs:List (List Key×V)}{xs:List (List Key×Addr×Value)}(r:KT H kvs xs)(k:List Key){y:V}{u:Value}(ry:RelV y u) :
  KT H (kvs.map λkv=>if kv.1=k then(kv.1,y)else kv) (xs.map (putAt k u)):=by
 induction r with
 |nil=>exact .nil
 |@cons p q ps qs h t ih =>
  rw[Ak,Ak]
  refine .cons ?_ ih
  obtain⟨h1,h2,h3⟩:=h
  unfold putAt
  by_cases e:p.1=k
  ·rw[Am e,Am (h1.symm.trans e)];exact⟨h1,h2,ry⟩
  ·rw[Ah e,Ah (λz=>e (h1.trans z))];exact⟨h1,h2,h3⟩
theorem KT.put{H:Hp}{kvs:List (List Key×V)}{xs:List (List Key×Addr×Value)}(r:KT H kvs xs)(k:List Key){b:Addr}{y:V}{u:Value}(hb:H b=some (.tup (k.map kV)))(ry:RelV y u) :
  KT H (putK kvs k y) (storedH xs k b u):=by
 have e:(kvs.any λkv=>decide (kv.1=k))=(atKey xs k).isSome:=by
  rw[jfu,(r.val k).isSome_eq,Option.isSome_map]
 unfold putK storedH
 rw[e]
 by_cases q:(atKey xs k).isSome=true
 ·rw[Am q,Am q];exact r.repl k ry
 ·rw[Ah q,Ah q];exact Paired.snoc r ⟨rfl,hb,ry⟩
theorem KT.keeps{H H':Hp}{kvs:List (List Key×V)}{xs:List (List Key×Addr×Value)}(r:KT H kvs xs)(ht:∀b ys,H b=some (.tup ys)->H' b=some (.tup ys)):KT H' kvs xs :=
 Paired.mapP r λ_ _ z=>⟨z.1,ht _ _ z.2.1,z.2.2⟩
section
variable{P:Program}{w:World}{H:Hp}{h:Heap}{a:Addr}
theorem jnb{u:HO}(ok:HOk P w H h)(e:Rd H a u):ObjOk P w H h a u:=e.ok ok
theorem jin{kvs:List (Key×V)}(ok:HOk P w H h)(e:Rd H a (.dK kvs)):kvs.length<=sizeLine/\(a == sysModules)=false/\∃vs,KV kvs vs/\h.DictOf (jd0 P w) a vs :=
 show ObjOk P w H h a (.dK kvs)from jnb ok e
theorem joy{kvs:List (Key×V)}(ok:HOk P w H h)(e:H a=some (.dK kvs)):kvs.length<=sizeLine/\(a == sysModules)=false/\∃vs,KV kvs vs/\h.DictOf (jd0 P w) a vs:=jin ok (.inl e)
theorem jfk{ks:List Key}(ok:HOk P w H h)(e:H a=some (.tup (ks.map kV))):(tupleKind (jd0 P w)).is h ks a:=by
 obtain⟨_,its,r,o,h1,h2,n,h3⟩:=(show ObjOk P w H h a (.tup (ks.map kV))from ok a _ e)
 exact⟨o,its.toArray,n,h1,h2,h3,by simpa using jh9 r⟩
theorem jio{kvs:List (List Key×V)}(ok:HOk P w H h)(e:Rd H a (.dT kvs)):kvs.length<=sizeLine/\(a == sysModules)=false /\
  ∃xs,KT H kvs xs/\h.DictOfH (tupleKind (jd0 P w)) a xs:=by
 obtain⟨z,y,xs,r,o,es,ep,h1,h2,h3,h4,h5⟩:=(show ObjOk P w H h a (.dT kvs)from jnb ok e)
 refine⟨z,y,xs,r,o,es,ep,h1,h2,h3,h4,λx hx=>?_,h5⟩
 have all:∀{l:List (List Key×V)}{m:List (List Key×Addr×Value)},KT H l m->∀x∈m,(tupleKind (jd0 P w)).is h x.1 x.2.1:=by
  intro l m q
  induction q with
  |nil=>intro x hx;exact nomatch hx
  |@cons p q ps qs hq t ih =>
   intro x hx
   rcases Il.mp hx with e|hx
   ·subst e
    exact jfk ok (by rw[<-hq.1];exact hq.2.1)
   ·exact ih x hx
 exact all r x hx
theorem jm5{kvs:List (List Key×V)}(ok:HOk P w H h)(e:H a=some (.dT kvs)):kvs.length<=sizeLine/\(a == sysModules)=false /\
  ∃xs,KT H kvs xs/\h.DictOfH (tupleKind (jd0 P w)) a xs:=jio ok (.inl e)
end
def DGet(H:Hp)(a:Addr)(y:V)(r:Option V):Prop :=
 (∃kvs k,Rd H a (.dK kvs)/\y=kV k/\r=valV kvs k)\/∃kvs k b,Rd H a (.dT kvs)/\y=.ref b/\H b=some (.tup (k.map kV))/\r=valV kvs k
def DPut(H:Hp)(a:Addr)(y v:V)(H':Hp):Prop :=
 (∃kvs k,H a=some (.dK kvs)/\y=kV k/\kvs.length<sizeLine/\H'=upd H a (.dK (putK kvs k v))) \/
 ∃kvs k b,H a=some (.dT kvs)/\y=.ref b/\H b=some (.tup (k.map kV))/\kvs.length<sizeLine/\H'=upd H a (.dT (putK kvs k v))
theorem DGet.t{H:Hp}{a b:Addr}{kvs:List (List Key×V)}{k:List Key}(e:H a=some (.dT kvs))(eb:H b=some (.tup (k.map kV))):DGet H a (.ref b) (valV kvs k):=.inr ⟨kvs,k,b,.inl e,rfl,eb,rfl⟩
theorem DPut.t{H:Hp}{a b:Addr}{kvs:List (List Key×V)}{k:List Key}{v:V}(e:H a=some (.dT kvs))(eb:H b=some (.tup (k.map kV)))(hl:kvs.length<sizeLine) :
  DPut H a (.ref b) v (upd H a (.dT (putK kvs k v))):=.inr ⟨kvs,k,b,e,rfl,eb,hl,rfl⟩
section
variable{X:Cx}{pins:List (Addr×Obj)}{σ:St}{H:Hp}{s:Shared}{a:Addr}{y v:V}{u r:Value}{o:Option V}{A:Around}{E:Value->Shared->Prop}
theorem Inv.big(I:Inv X pins σ H s):sysModules<s.heap.objs.size:=by
 have h:mainGlobals<s.heap.objs.size:=(I.mod.glob.keeps I.bk).lt
 exact Yb (by decide) h
theorem jlf{Q:Value->Shared->Prop}(hu:A.units+1<cLine)(I:Inv X pins σ H s)(g:DGet H a y (some v))(ry:RelV y u)(h:∀w' s',Inv X pins σ H s'->RelV v w'->Q w' s') :
  wpAny (model X.prog X.w) A (getItem (.ref a) u) Q E s:=by
 rcases g with⟨kvs,k,e,ey,l⟩|⟨kvs,k,b,e,ey,eb,l⟩
 ·subst ey
  obtain⟨z,hd,vs,rel,dd⟩:=jin I.hok e
  obtain⟨w',hw,rw'⟩:=RelO.some_of (v:=v) (o:=valueAt vs k) (by rw[l];exact rel.val k)
  exact wpAny_getItem_of (jiq ry) dd.mapOf hw (h w' _ (I.tok _) rw')
 ·subst ey
  cases(show u=Value.ref b from ry)
  obtain⟨z,hd,xs,rel,dd⟩:=jio I.hok e
  obtain⟨w',hw,rw'⟩:=RelO.some_of (v:=v) (o:=(atKey xs k).map (·.2)) (by rw[l];exact rel.val k)
  obtain⟨p,hp,hp2⟩:=Option.map_eq_some_iff.mp hw
  refine wpAny_getItem_heap (Yf hu) (jfk I.hok eb) dd hp ?_
  rw[hp2]
  exact h w' _ (I.tok _) rw'
theorem jnk{Q:Value->Shared->Prop}(hu:A.units+1<cLine)(I:Inv X pins σ H s)(g:DGet H a y o)(ry:RelV y u)(h:∀s',Inv X pins σ H s'->Q (.bool (!o.isSome)) s') :
  wpAny (model X.prog X.w) A (compareOp .NotIn u (.ref a)) Q E s:=by
 rcases g with⟨kvs,k,e,ey,l⟩|⟨kvs,k,b,e,ey,eb,l⟩
 ·subst ey
  obtain⟨z,hd,vs,rel,dd⟩:=jin I.hok e
  refine wpAny_notIn_of (jiq ry) hd dd.mapOf ?_
  rw[<-(rel.val k).isSome_eq,<-l]
  exact h _ (I.tok _)
 ·subst ey
  cases(show u=Value.ref b from ry)
  obtain⟨z,hd,xs,rel,dd⟩:=jio I.hok e
  refine wpAny_notIn_heap (Yf hu) (jfk I.hok eb) hd dd ?_
  have q:=(rel.val k).isSome_eq
  rw[Option.isSome_map]at q
  rw[<-q,<-l]
  exact h _ (I.tok _)
theorem jht{h':Heap}{t':Nat}{ob:HO}(I:Inv X pins σ H s)(mu:Mut (H a))(hs:Heap.SameBut a s.heap h')(he:∃q,h'.get? a=some q)(new:ObjOk X.prog X.w (upd H a ob) h' a ob) :
  Inv X pins σ (upd H a ob) {s with heap:=h',toks:=t'} :=
 I.write (x:=a) (e:=a) mu (.inl rfl) (λb q hb z=>(hs.2 b hb).trans z) he new
theorem joa{P:Program}{w:World}{H':Hp}{h':Heap}{kvs:List (Key×V)}{vs:List (Key×Value)}(z:kvs.length<=sizeLine)(hd:(a == sysModules)=false)(rel:KV kvs vs)(dd:h'.DictOf (jd0 P w) a vs) :
  ObjOk P w H' h' a (.dK kvs):=⟨z,hd,vs,rel,dd⟩
theorem jlg{H':Hp}{Q:Unit->Shared->Prop}(hu:A.units+1<cLine)(I:Inv X pins σ H s)(g:DPut H a y v H')(ry:RelV y u)(rv:RelV v r)(h:∀s',Inv X pins σ H' s'->Q () s') :
  wpAny (model X.prog X.w) A (setItem (.ref a) u r) Q E s:=by
 rcases g with⟨kvs,k,e,ey,l,eH⟩|⟨kvs,k,b,e,ey,eb,l,eH⟩
 ·subst ey eH
  obtain⟨z,hd,vs,rel,dd⟩:=joy I.hok e
  have hz:vs.length<=sizeLine:=by rw[<-rel.length];exact z
  have hl:(putK kvs k v).length<=sizeLine:=by have:=jev kvs k v;omega
  refine wpAny_setItem_pairs (hsz:=hz) (jiq ry) dd λh' dd' hs=>h _ ?_
  have he:∃q,h'.get? a=some q:=let⟨q,_,_,hq,_⟩:=dd';⟨q,hq⟩
  exact jht I (by rw[e];exact True.intro) hs he (joa hl hd (rel.put k rv) dd')
 ·subst ey eH
  cases(show u=Value.ref b from ry)
  obtain⟨z,hd,xs,rel,dd⟩:=jm5 I.hok e
  have hz:xs.length<=sizeLine:=by rw[<-Ou rel];exact z
  have hl:(putK kvs k v).length<=sizeLine:=by have:=jev kvs k v;omega
  refine wpAny_setItem_heap (hsz:=hz) (Yf hu) (jfk I.hok eb) dd λh' dd' hs=>h _ ?_
  obtain⟨q,es,ep,hq,h2,h3,h4,_,h5⟩:=dd'
  refine jht I (by rw[e];exact True.intro) hs ⟨q,hq⟩ ⟨hl,hd,_,(rel.put k eb rv).keeps λc ys ec=>?_,q,es,ep,hq,h2,h3,h4,h5⟩
  rw[jd (jkx ec e (λz=>nomatch z))]
  exact ec
end
def NoSl(i:Expr):Prop:=∀ov iv,subscripted i false ov iv=operate [ov,iv] (getItem ov iv)
theorem jn0{prog:Program}{w:World}{A:Around}{E:Value->Shared->Prop}{s:Shared}{env:Env}{value slice:Expr}{pos:Pos}{T id:String}{Q:Value->Shared->Prop}
  (hl:typeLookup (.type T) "__getitem__"=pure (some (.builtin id))) (hs:NoSl slice)
  (h:wpAny (model prog w) A (eval value env) (λo s₁=>wpAny (model prog w) A (eval slice env) (λi s₂=>s₂.TypeIs o T/\wpAny (model prog w) A (getItem o i) Q E s₂) E s₁) E s) :
  wpAny (model prog w) A (eval (.Subscript value slice pos) env) Q E s:=by
 refine Subscript_ (Ol h (λo s₁ h₁=>Ol h₁ (λi s₂ h₂=>?_) λ_ _ x=>x) λ_ _ x=>x)
 obtain⟨hT,h₂⟩:=h₂
 unfold subscriptTail
 refine Ac ?_
 rw[getitemInPython_of_ne hT.not_modules]
 refine Ac (wpAny_specialOf hT hl ?_)
 have fin:wpAny (model prog w) A (subscripted slice false o i) (λr s₃=>wpAny (model prog w) A (letTemporaryGo value o r >>= λ_=>pure r) Q E s₃) E s₂:=by
  rw[hs o i]
  exact wpAny_operating (Ol h₂ (λr s₃ h₃=>Ac (wpAny_letTemporaryGo (A5 h₃))) λ_ _ x=>x)
 first
  |exact A5 (Ac fin)
  |exact Ac (A5 (Ac fin))
  |exact Ac fin
theorem jjr{X:Cx}{pins:List (Addr×Obj)}{σ:St}{H:Hp}{s:Shared}{a:Addr}{y:V}{o:Option V}(I:Inv X pins σ H s)(g:DGet H a y o):s.TypeIs (.ref a) "dict":=by
 rcases g with⟨kvs,k,e,_,_⟩|⟨kvs,k,b,e,_,_,_⟩
 ·obtain⟨_,_,vs,_,dd⟩:=jin I.hok e
  exact dd.typeIs
 ·obtain⟨_,_,xs,_,dd⟩:=jio I.hok e
  exact dd.typeIs
def jdx(td ty:TE):TE:=λσ H Q=>td σ H λx H1=>ty σ H1 λy H2=>∃a v,x=.ref a/\DGet H2 a y (some v)/\Q v H2
def jcv(ty td:TE):TE:=λσ H Q=>ty σ H λy H1=>td σ H1 λx H2=>∃a o,x=.ref a/\DGet H2 a y o/\Q (.bl (!o.isSome)) H2
def jdc(td ty tv:TE):TS:=λD σ H=>tv σ H λv H1=>td σ H1 λx H2=>ty σ H2 λy H3=>∃a H4,x=.ref a/\DPut H3 a y v H4/\D.nx σ H4
section
variable{X:Cx}{o i e value:Expr}{pos pos' tpos:Pos}{td ty tv:TE}
theorem pe_dget(hu:X.A.units+1<cLine)(ho:PE X o td)(hi:PE X i ty)(hs:NoSl i):PE X (.Subscript o i pos) (jdx td ty):=by
 intro pins s σ H Q I h
 refine jn0 PySem.F.slot_dict_getitem.lookup hs (thn (ho pins s σ H _ I h) λu s1 ⟨x,H1,I1,rx,q1⟩=>thn (hi pins s1 σ H1 _ I1 q1) λiv s2 ⟨y,H2,I2,ry,a,v,ex,g,q2⟩=>?_)
 subst ex
 obtain rfl:u=Value.ref a:=rx
 exact⟨jjr I2 g,jlf hu I2 g ry λw' s3 I3 rw'=>⟨v,H2,I3,rw',q2⟩⟩
theorem pc_dnotin(hu:X.A.units+1<cLine)(hi:PE X i ty)(ho:PE X o td):PC X .NotIn i o (jcv ty td):=by
 intro pins s σ H Q I h
 refine thn (hi pins s σ H _ I h) λiv s1 ⟨y,H1,I1,ry,q1⟩=>thn (ho pins s1 σ H1 _ I1 q1) λu s2 ⟨x,H2,I2,rx,a,ov,ex,g,q2⟩=>?_
 subst ex
 obtain rfl:u=Value.ref a:=rx
 exact jnk hu I2 g ry λs3 I3=>⟨.bl (!ov.isSome),H2,I3,rfl,q2⟩
theorem ps_dput(hu:X.A.units+1<cLine)(ho:PE X o td)(hi:PE X i ty)(hv:PE X value tv)(hs:swapsWith value (some (.Subscript o i pos')) pos.line X.env=pure false) :
  PS X (.Assign [.Subscript o i pos'] value pos) (jdc td ty tv):=by
 intro pins s σ H D I h
 refine wpAny_Assign_Subscript (thn (hv pins s σ H _ I h) λr s1 ⟨v,H1,I1,rv,q1⟩=>thn (ho pins s1 σ H1 _ I1 q1) λu s2 ⟨x,H2,I2,rx,q2⟩=>thn (hi pins s2 σ H2 _ I2 q2) λiv s3 ⟨y,H3,I3,ry,a,H4,ex,g,q3⟩=>?_) hs
 subst ex
 obtain rfl:u=Value.ref a:=rx
 exact jlg hu I3 g ry rv λs4 I4=>⟨σ,H4,I4,q3⟩
end
theorem jmk{P:Program}{w:World}{H:Hp}(h:Heap)(hb:sysModules<h.objs.size):ObjOk P w H (h.push {cls:=.type "dict",data:=.dict #[]}) h.objs.size (.dT []) :=
 ⟨O8 _,beq_eq_false_iff_ne.mpr (O3 (Ip hb)),[],.nil,_,#[],0,Ir _ rfl,⟨rfl,rfl,rfl⟩,rfl,rfl,List.nodup_nil⟩
def jbz:List (TE×TE)->St->Hp->(List (V×V)->Hp->Prop)->Prop
 |[],_,H,Q=>Q [] H
 |(tk,tv)::r,σ,H,Q=>tk σ H λx H1=>tv σ H1 λy H2=>jbz r σ H2 λps H3=>Q ((x,y)::ps) H3
abbrev VV:List (V×V)->List (Value×Value)->Prop:=Paired λp q=>RelV p.1 q.1/\RelV p.2 q.2
def PPs(X:Cx)(pos:Pos)(keys:List (Option Expr))(values:List Expr)(trs:List (TE×TE)):Prop :=
 ∀(pins:List (Addr×Obj))(s:Shared)(σ:St)(H:Hp)(Q:List (V×V)->Hp->Prop),Inv X pins σ H s->jbz trs σ H Q ->
  wpAny (model X.prog X.w) X.A (evalPairs (pairTrees keys values X.env pos)) (λvs s'=>∃ps H',Inv X pins σ H' s'/\VV ps vs/\Q ps H') X.xe s
theorem pps_nil{X:Cx}{pos:Pos}:PPs X pos [] [] []:=λpins s σ H Q I h=>pairTrees_nil_walk ⟨[],H,I,.nil,h⟩
theorem pps_cons{X:Cx}{pos:Pos}{k v:Expr}{ks:List (Option Expr)}{vs:List Expr}{tk tv:TE}{trs:List (TE×TE)}(hk:PE X k tk)(hv:PE X v tv)(hr:PPs X pos ks vs trs) :
  PPs X pos (some k::ks) (v::vs) ((tk,tv)::trs):=λpins s σ H Q I h =>
 pairTrees_cons_walk (thn (hk pins s σ H _ I h) λu s1 ⟨x,H1,I1,rx,q1⟩=>thn (hv pins s1 σ H1 _ I1 q1) λw2 s2 ⟨y,H2,I2,ry,q2⟩ =>
  thn (hr pins s2 σ H2 _ I2 q2) λws s3 ⟨ps,H3,I3,rel,q3⟩=>⟨(x,y)::ps,H3,I3,.cons ⟨rx,ry⟩ rel,q3⟩)
structure Kp(S:List Addr)(H H':Hp):Prop where
 old:∀a o,H a=some o->a∉S->H' a=some o
 tup:∀a xs,H a=some (.tup xs)->H' a=some (.tup xs)
 dom:∀a o,H a=some o->∃o',H' a=some o'
theorem Kp.refl(S:List Addr)(H:Hp):Kp S H H:=⟨λ_ _ e _=>e,λ_ _ e=>e,λ_ o e=>⟨o,e⟩⟩
theorem Kp.trans{S:List Addr}{H H1 H2:Hp}(a:Kp S H H1)(b:Kp S H1 H2):Kp S H H2 :=
 ⟨λc o e n=>b.old c o (a.old c o e n) n,λc xs e=>b.tup c xs (a.tup c xs e),λc o e=>let⟨o',e'⟩:=a.dom c o e;b.dom c o' e'⟩
theorem Kp.mono{S S':List Addr}{H H1:Hp}(a:Kp S H H1)(h:∀x∈S,x∈S'):Kp S' H H1:=⟨λc o e n=>a.old c o e λz=>n (h c z),a.tup,a.dom⟩
theorem Kp.free{S:List Addr}{H H1:Hp}(k:Kp S H H1){p:Addr}(h:H1 p=none):H p=none:=by
 cases e:H p with
 |none=>rfl
 |some o=>obtain⟨o',e'⟩:=k.dom p o e;rw[h]at e';cases e'
theorem Kp.trans'{S S':List Addr}{H H1 H2:Hp}(a:Kp S H H1)(b:Kp S' H1 H2)(h:∀x∈S',x∈S\/H x=none):Kp S H H2 :=
 ⟨λc o e n=>b.old c o (a.old c o e n) λz=>by
  rcases h c z with q|q
  ·exact n q
  ·(rw[q]at e;exact nomatch e),λc xs e=>b.tup c xs (a.tup c xs e),λc o e=>let⟨o',e'⟩:=a.dom c o e;b.dom c o' e'⟩
theorem Kp.new{S:List Addr}{H H1:Hp}(k:Kp S H H1){p:Addr}{o:HO}(h:H1 p=none):Kp S H (upd H1 p o) :=
 ⟨λc u e n=>by rw[jd (jf (k.old c u e n) h)];exact k.old c u e n,λc xs e=>by rw[jd (jf (k.tup c xs e) h)];exact k.tup c xs e,
  λc u e=>by
   obtain⟨o',e'⟩:=k.dom c u e
   exact⟨o',by rw[jd (jf e' h)];exact e'⟩⟩
theorem Kp.set{S:List Addr}{H H1:Hp}(k:Kp S H H1){b:Addr}{xs:List V}{o:HO}(hb:H1 b=some (.lst xs))(h:b∈S\/H b=none):Kp S H (upd H1 b o) :=
 ⟨λc u e n=>by
  have:c≠b:=by
   rintro rfl
   rcases h with h|h
   ·exact n h
   ·rw[h]at e;cases e
  rw[jd this];exact k.old c u e n,
 λc ys e=>by
  have e1:=k.tup c ys e
  rw[jd (jkx e1 hb (by intro z;cases z))];exact e1,
 λc u e=>by
  obtain⟨o',e'⟩:=k.dom c u e
  by_cases q:c=b
  ·subst q;exact⟨o,jb⟩
  ·exact⟨o',by rw[jd q];exact e'⟩⟩
def jec:Option HO->Option (List V)
 |some (.lst xs)=>some xs
 |_=>none
def jgb:Option HO->Option (List V)
 |some (.tup xs)=>some xs
 |_=>none
def jeq:Option HO->Option (List V)
 |some (.lst xs)=>some xs
 |some (.tup xs)=>some xs
 |_=>none
theorem jb3(xs:List V):jec (some (.lst xs))=some xs:=rfl
theorem jcf(xs:List V):jgb (some (.tup xs))=some xs:=rfl
theorem jcd(xs:List V):jeq (some (.lst xs))=some xs:=rfl
theorem jce(xs:List V):jeq (some (.tup xs))=some xs:=rfl
theorem jeg{o:Option HO}{xs:List V}(h:jec o=some xs):o=some (.lst xs):=by
 unfold jec at h
 split at h
 ·cases h;rfl
 ·cases h
theorem jgr{o:Option HO}{xs:List V}(h:jgb o=some xs):o=some (.tup xs):=by
 unfold jgb at h
 split at h
 ·cases h;rfl
 ·cases h
theorem jgq{o:Option HO}{xs:List V}(h:jeq o=some xs):o=some (.lst xs)\/o=some (.tup xs):=by
 unfold jeq at h
 split at h
 ·cases h;exact .inl rfl
 ·cases h;exact .inr rfl
 ·cases h
section
variable{X:Cx}
def rLtU:R2:=λx y H Q=>match x,y with
 |.int i,.int j=>Q (.bl (decide (i<j))) H
 |.str i,.str j=>Q (.bl (decide (i.cps.toList<j.cps.toList))) H
 |_,_=>False
theorem ja4:OpR X (compareOp .Lt) rLtU:=by
 intro pins s σ H x y v u Q I rx ry h
 cases x with
 |int i=>cases y with
  |int j=>exact op_lt pins s σ H _ _ v u Q I rx ry ⟨i,j,rfl,rfl,h⟩
  |_=>exact False.elim h
 |str i=>cases y with
  |str j=>exact op_lt_str pins s σ H _ _ v u Q I rx ry ⟨i,j,rfl,rfl,h⟩
  |_=>exact False.elim h
 |_=>exact False.elim h
def rIxU:R2:=λx y H Q=>match x,y with
 |.str z,.int i=>z.length<=sizeLine/\∃c,atI z.cps.toList i=some c/\Q (.str ⟨#[c]⟩) H
 |.ref p,.int i=>∃xs,jeq (H p)=some xs/\∃v,atI xs i=some v/\Q v H
 |_,_=>False
theorem ix_U:IxR X rIxU:=by
 intro value slice pins s σ H x y v u Q I rx ry h hs
 cases x with
 |str z=>cases y with
  |int i=>obtain⟨h1,c,h2,h3⟩:=h;exact ix_str value slice pins s σ H _ _ v u Q I rx ry ⟨z,i,c,rfl,rfl,h1,h2,h3⟩ hs
  |_=>exact False.elim h
 |ref p=>cases y with
  |int i =>
   obtain⟨xs,e,w,h2,h3⟩:=h
   rcases jgq e with e|e
   ·exact ja9 value slice pins s σ H _ _ v u Q I rx ry ⟨p,xs,i,w,rfl,rfl,SqL.of e,h2,h3⟩ hs
   ·exact ix_tup value slice pins s σ H _ _ v u Q I rx ry ⟨p,xs,i,w,rfl,rfl,SqT.of e,h2,h3⟩ hs
  |_=>exact False.elim h
 |_=>exact False.elim h
theorem jdm{α:Type}(x:α)(r:List α):atI (x::r) 0=some x:=jdv (j:=0) rfl
theorem jdp{α:Type}(x y:α)(r:List α):atI (x::y::r) 1=some y:=jdv (j:=1) rfl
theorem jdq{α:Type}(x y z:α)(r:List α):atI (x::y::z::r) 2=some z:=jdv (j:=2) rfl
theorem jg2{α:Type}{xs:List α}{i:Int}{v:α}(h0:0<=i)(h:xs[i.toNat]?=some v):atI xs i=some v:=by
 have:=jdv (xs:=xs) (j:=i.toNat) h
 rwa[Int.toNat_of_nonneg h0]at this
def jm9:V->V->V->Hp->(Hp->Prop)->Prop:=λo i v H Q=>match o,i with
 |.ref p,.int k=>∃xs,jec (H p)=some xs/\∃j,ixN xs.length k=some j/\Q (upd H p (.lst (xs.set j v)))
 |_,_=>False
theorem jhm:PSet X jm9:=by
 intro pins s σ H o i v ov iv u Q I ro ri rv h
 cases o with
 |ref p=>cases i with
  |int k =>
   obtain⟨xs,e,j,h1,h2⟩:=h
   exact jmw pins s σ H _ _ v ov iv u Q I ro ri rv ⟨p,xs,k,j,rfl,rfl,jeg e,h1,h2⟩
  |_=>exact False.elim h
 |_=>exact False.elim h
def jhh:List V->Hp->VK->Prop:=λxs H Q=>match xs with
 |[.str z]=>z.length<=sizeLine/\Q (.int z.length) H
 |[.ref p]=>∃ys,jeq (H p)=some ys/\Q (.int ys.length) H
 |_=>False
theorem j4:jeb X (.builtin "len") jhh:=by
 intro pins s σ H xs us Q I r h
 unfold jhh at h
 split at h
 ·rename_i z;exact call_len_str pins s σ H _ us Q I r ⟨z,rfl,h⟩
 ·rename_i p
  obtain⟨ys,e,h⟩:=h
  rcases jgq e with e|e
  ·exact zg pins s σ H _ us Q I r ⟨p,ys,rfl,.inl (SqL.of e),h⟩
  ·exact zg pins s σ H _ us Q I r ⟨p,ys,rfl,.inr (SqT.of e),h⟩
 ·exact h.elim
def jky:List V->Hp->VK->Prop:=λxs H Q=>match xs with
 |[.int i,.int j]=>Q (.int (if j>i then j else i)) H
 |_=>False
theorem call_maxU(hc:X.calm=true):jeb X (.builtin "max") jky:=by
 intro pins s σ H xs us Q I r h
 unfold jky at h
 split at h
 ·rename_i i j;exact call_max2 hc pins s σ H _ us Q I r ⟨i,j,rfl,h⟩
 ·exact h.elim
def jit:List V->Hp->VK->Prop:=λxs H Q=>match xs with
 |[.int i]=>Q (.int i) H
 |[.bl k]=>Q (.int (if k then 1 else 0)) H
 |_=>False
theorem jaw:jeb X (.type "int") jit:=by
 intro pins s σ H xs us Q I r h
 unfold jit at h
 split at h
 ·rename_i i;exact jbe pins s σ H _ us Q I r (.inl ⟨i,rfl,h⟩)
 ·rename_i k;exact jbe pins s σ H _ us Q I r (.inr ⟨k,rfl,h⟩)
 ·exact h.elim
def sgn(z:Str):List V:=z.cps.toList.map λc=>V.str ⟨#[c]⟩
theorem jnz(z:Str):(sgn z).length=z.length:=by simp[sgn,Str.length]
theorem jm1{z:Str}{acc:Array Value}(h:ItemsOf (SignAt z) acc z.cps.size):Vals (sgn z) acc.toList:=by
 obtain⟨h1,h2⟩:=h
 have hl:(sgn z).length=acc.toList.length:=by simp[sgn,h1]
 have gen:∀(xs:List V)(us:List Value),xs.length=us.length->(∀(i:Nat)(x:V)(u:Value),xs[i]?=some x->us[i]?=some u->RelV x u)->Vals xs us:=by
  intro xs
  induction xs with
  |nil=>intro us hl _;cases us with
   |nil=>exact .nil
   |cons _ _=>simp at hl
  |cons x xs ih=>intro us hl h;cases us with
   |nil=>simp at hl
   |cons u us=>exact .cons (h 0 x u rfl rfl) (ih us (by simpa using hl) λi a b e1 e2=>h (i+1) a b (by simpa using e1) (by simpa using e2))
 refine gen _ _ hl λi x u e1 e2=>?_
 obtain⟨c,t,hc,hu⟩:=h2 i u (by simpa using e2)
 subst hu
 simp only[sgn,A9]at e1
 have:z.cps.toList[i]?=some c:=by simpa using hc
 rw[this]at e1
 have e1':V.str ⟨#[c]⟩=x:=A7 e1
 subst e1'
 exact⟨t,rfl⟩
def jhi:List V->Hp->VK->Prop:=λxs H Q=>match xs with
 |[.str z]=>z.length<=sizeLine/\∀l,H l=none->Q (.ref l) (upd H l (.lst (sgn z)))
 |[.ref p]=>∃ys,jeq (H p)=some ys/\∀l,H l=none->Q (.ref l) (upd H l (.lst ys))
 |_=>False
theorem zr(hc:X.calm=true):jeb X (.type "list") jhi:=by
 intro pins s σ H xs us Q I r h
 unfold jhi at h
 split at h
 ·rename_i z
  obtain⟨u,rfl,t,rfl⟩:=jet r
  obtain⟨hz,q⟩:=h
  refine call_list_str (I.ok.hd hc) z t (λh' tk acc c hk hn hi=>?_) hz
  have hf:=I.hok.fresh (Al s.heap.objs.size)
  refine⟨.ref s.heap.objs.size,upd H s.heap.objs.size (.lst (sgn z)),I.laid hk (Al _) ⟨by rw[jnz];exact hz,acc.toList,c,jm1 hi,by simpa using hn⟩,rfl,q _ hf⟩
 ·rename_i p
  obtain⟨ys,e,h⟩:=h
  rcases jgq e with e|e
  ·exact jax pins s σ H _ us Q I r ⟨p,ys,rfl,.inl (SqL.of e),h⟩
  ·exact jax pins s σ H _ us Q I r ⟨p,ys,rfl,.inr (SqT.of e),h⟩
 ·exact h.elim
def jk0:V->List V->Hp->VK->Prop:=λx vs H Q=>match x,vs with
 |.ref l,[.int i]=>∃xs,jec (H l)=some xs/\0<=i/\∃y,xs[i.toNat]?=some y/\Q y (upd H l (.lst (xs.eraseIdx i.toNat)))
 |_,_=>False
theorem jbq:MtM X "list.pop" jk0:=by
 intro pins s σ H x vs v us Q I rx rv h
 unfold jk0 at h
 split at h
 ·rename_i l i
  obtain⟨xs,e,h0,y,hy,q⟩:=h
  have e:=jeg e
  have hz:=(I.lstM e).1
  have hlt:i.toNat<xs.length:=(Ab.mp hy).1
  have hs:sizeLine=16777216:=sizeLine_eq
  refine mt_popAt pins s σ H _ _ v us Q I rx rv ⟨l,xs,i,i.toNat,y,rfl,rfl,e,by omega,by omega,?_,hy,q⟩
  exact seqIndex_of h0 (by omega)
 ·exact h.elim
def ItS(z:Str):It:=⟨λi _=>i<z.length,λi H x H'=>H'=H/\∃c,z.cps.toList[i]?=some c/\x=.str ⟨#[c]⟩,λi _=>z.length<=i⟩
theorem jmd{P:Program}{w:World}{K:PySem.W.Frag}{tg:Expr}(z:Str)(t:Tok)(it:Addr):Turn P w K tg (ItS z) [it] it (λi h=>h.IsStrIter it "str_ascii_iterator" z t i) where
 mem:=by simp
 obj:=λi h st b hb=>by
  have e:b=it:=by simpa using hb
  subst e
  obtain⟨o,e,c,d⟩:=st
  exact⟨o,e,λv z=>by rw[d]at z;cases z⟩
 keep:=λi h h' st k=>let⟨o,ho,r⟩:=st;⟨o,k it (by simp) o ho,r⟩
 item:=by
  intro X hP hw hK hc i pins s σ H E I hf st hg
  subst hP hw hK
  obtain⟨f0,f1,f2,f3,f4,f5⟩:=hf it (by simp)
  have hi:i<z.cps.size:=hg
  refine wpAny_pyNext_ascii_item st (c:=z.cps[i]) (by simp[hi]) λh' st' sb=>?_
  have I1:Inv X pins σ H {s with heap:=h',toks:=s.toks+1}:=I.turned (t':=s.toks+1) (λb o hb e=>(sb.2 b hb).trans e) f0 f1 f3 f4 f5
  obtain⟨o,e,c,d⟩:=id st'
  exact⟨_,rfl,jha (s:={s with heap:=h',toks:=s.toks+1}) e c d (by decide) ⟨.str ⟨#[z.cps[i]]⟩,H,I1,⟨_,rfl⟩,⟨rfl,_,by simp[hi],rfl⟩,st',λb hb=>(hf b hb).1⟩⟩
 done:=by
  intro X hP hw hK hc i pins s σ H E I hf st hg
  subst hP hw hK
  obtain⟨f0,f1,f2,f3,f4,f5⟩:=hf it (by simp)
  have hi:z.cps.size<=i:=hg
  exact wpAny_pyNext_ascii_end (I.ok.hd hc) st (by simp[hi]) λh' eb=>⟨rfl,I.turned (t':=s.toks) (λb o hb e=>eb b o hb e) f0 f1 f3 f4 f5⟩
 self:=λ_ _ _ _ _ st h=>wpAny_pyIter_striter_ascii st h
theorem jme{P:Program}{w:World}{K:PySem.W.Frag}{tg:Expr}(z:Str)(t:Tok)(it:Addr):Turn P w K tg (ItS z) [it] it (λi h=>h.IsStrIter it "str_iterator" z t i) where
 mem:=by simp
 obj:=λi h st b hb=>by
  have e:b=it:=by simpa using hb
  subst e
  obtain⟨o,e,c,d⟩:=st
  exact⟨o,e,λv z=>by rw[d]at z;cases z⟩
 keep:=λi h h' st k=>let⟨o,ho,r⟩:=st;⟨o,k it (by simp) o ho,r⟩
 item:=by
  intro X hP hw hK hc i pins s σ H E I hf st hg
  subst hP hw hK
  obtain⟨f0,f1,f2,f3,f4,f5⟩:=hf it (by simp)
  have hi:i<z.cps.size:=hg
  refine wpAny_pyNext_wide_item st (c:=z.cps[i]) (by simp[hi]) λh' st' sb=>?_
  have I1:Inv X pins σ H {s with heap:=h',toks:=s.toks+1}:=I.turned (t':=s.toks+1) (λb o hb e=>(sb.2 b hb).trans e) f0 f1 f3 f4 f5
  obtain⟨o,e,c,d⟩:=id st'
  exact⟨_,rfl,jha (s:={s with heap:=h',toks:=s.toks+1}) e c d (by decide) ⟨.str ⟨#[z.cps[i]]⟩,H,I1,⟨_,rfl⟩,⟨rfl,_,by simp[hi],rfl⟩,st',λb hb=>(hf b hb).1⟩⟩
 done:=by
  intro X hP hw hK hc i pins s σ H E I hf st hg
  subst hP hw hK
  obtain⟨f0,f1,f2,f3,f4,f5⟩:=hf it (by simp)
  have hi:z.cps.size<=i:=hg
  exact wpAny_pyNext_wide_end (I.ok.hd hc) st (by simp[hi]) λh' eb=>⟨rfl,I.turned (t':=s.toks) (λb o hb e=>eb b o hb e) f0 f1 f3 f4 f5⟩
 self:=λ_ _ _ _ _ st h=>wpAny_pyIter_striter_wide st h
def iAny(K:PySem.W.Frag)(t:TE):TI:=λσ H R=>t σ H λx H1=>match x with
 |.str z=>R (ItS z) H1
 |.ref a=>match H1 a with
  |some (.lst _)=>R (Itl K a) H1
  |some (.tup _)=>R (Itt K a) H1
  |_=>False
 |_=>False
theorem pi_any{tg l:Expr}{tl:TE}(hl:PE X l tl):PI X tg l (iAny X.K tl):=by
 intro pins s σ H R I h
 refine thn (hl pins s σ H _ I h) λv s1 ⟨x,H1,I1,r1,q1⟩=>?_
 cases x with
 |str z =>
  obtain⟨t,rfl⟩:=r1
  have fr:∀b∈[s1.heap.objs.size],FpOk X pins H1 b:=λb hb=>by
   have e:b=s1.heap.objs.size:=by simpa using hb
   subst e
   exact I1.fpOk (Al _) (I1.hok.fresh (Al _))
  cases ha:z.cps.all (·<128)
  ·exact wpAny_pyIter_wide ha ⟨s1.heap.objs.size,[s1.heap.objs.size],_,_,H1,rfl,I1.kept (t':=s1.toks) λb o e=>Ad _ e,jme z t _,⟨_,Ir _ rfl,rfl,rfl⟩,fr,q1⟩
  ·exact wpAny_pyIter_ascii ha ⟨s1.heap.objs.size,[s1.heap.objs.size],_,_,H1,rfl,I1.kept (t':=s1.toks) λb o e=>Ad _ e,jmd z t _,⟨_,Ir _ rfl,rfl,rfl⟩,fr,q1⟩
 |ref a =>
  cases r1
  have fr:∀b∈[s1.heap.objs.size],FpOk X pins H1 b:=λb hb=>by
   have e:b=s1.heap.objs.size:=by simpa using hb
   subst e
   exact I1.fpOk (Al _) (I1.hok.fresh (Al _))
  simp only at q1
  split at q1
  ·rename_i xs e
   obtain⟨its,rv,p,hz⟩:=I1.list (SqL.of e)
   exact wpAny_pyIter_list p.isList ⟨s1.heap.objs.size,[s1.heap.objs.size],_,_,H1,rfl,I1.kept (t':=s1.toks) λb o e=>Ad _ e,jmc a _,⟨_,Ir _ rfl,rfl,rfl⟩,fr,q1⟩
  ·rename_i xs e
   obtain⟨its,rv,p,hz⟩:=I1.tuple (SqT.of e)
   exact wpAny_pyIter_tuple (show s1.heap.IsTuple a its.toArray from p) ⟨s1.heap.objs.size,[s1.heap.objs.size],_,_,H1,rfl,I1.kept (t':=s1.toks) λb o e=>Ad _ e,jk5 a _,⟨_,Ir _ rfl,rfl,rfl⟩,fr,q1⟩
  ·exact q1.elim
 |_=>exact False.elim q1
theorem jnl{z:Str}{g:TG}{tb:TS}{D:Ends}{σ:St}{H:Hp}(Pv:Nat->St->Hp->Prop)(h0:Pv 0 σ H)
  (hs:∀i c σ H,z.cps.toList[i]?=some c->Pv i σ H->g (.str ⟨#[c]⟩) σ H λσ2 H2=>tb {D with nx:=Pv (i+1),ct:=Pv (i+1),bk:=D.nx} σ2 H2) (hd:∀σ H,Pv z.length σ H->D.nx σ H) :
  ∃W:Nat->Nat->St->Hp->Prop,(∃m,W 0 m σ H)/\∀i m σ H,W i m σ H ->
   ((ItS z).stop i H/\D.nx σ H)\/((ItS z).go i H/\∃N:St->Hp->Prop,(∀σ' H',N σ' H'->∃m',m'<m/\W (i+1) m' σ' H')/\∀x H',(ItS z).yld i H x H'->g x σ H' λσ2 H2=>tb {D with nx:=N,ct:=N,bk:=D.nx} σ2 H2):=by
 refine⟨λi m σ H=>m=z.length-i/\i<=z.length/\Pv i σ H,⟨z.length,by simp,O8 _,h0⟩,?_⟩
 rintro i m σ H ⟨rfl,hi,p⟩
 by_cases hlt:i<z.length
 ·refine .inr ⟨hlt,Pv (i+1),λσ' H' p'=>⟨z.length-(i+1),by omega,rfl,hlt,p'⟩,λx H' y=>?_⟩
  obtain⟨e,c,e1,e2⟩:=y
  subst e e2
  exact hs i c σ _ e1 p
 ·have e:i=z.length:=by omega
  subst e
  exact .inl ⟨Al _,hd σ H p⟩
mutual
def Rep(H:Hp):V->PyData->Prop
 |v,.none=>v=.non
 |v,.bool b=>v=.bl b
 |v,.int i=>v=.int i
 |v,.str x=>v=.str x
 |v,.list ds=>∃a vs,v=.ref a/\H a=some (.lst vs)/\Reps H vs ds
 |v,.tuple ds=>∃a vs,v=.ref a/\H a=some (.tup vs)/\Reps H vs ds
 |_,.dict _=>False
def Reps(H:Hp):List V->List PyData->Prop
 |[],[]=>True
 |v::vs,d::ds=>Rep H v d/\Reps H vs ds
 |_,_=>False
end
section
variable{pins:List (Addr×Obj)}{σ:L2.St}{H:Hp}{s:Shared}
mutual
theorem Rep.reads(I:Inv X pins σ H s):∀{d:PyData}{v:V}{u:Value},Rep H v d->RelV v u->∃as,Reads s.heap u d as
 |.none,v,u,h,r=>by simp only[Rep]at h;subst h;cases r;exact⟨_,.none⟩
 |.bool b,v,u,h,r=>by simp only[Rep]at h;subst h;cases r;exact⟨_,.bool b⟩
 |.int i,v,u,h,r=>by simp only[Rep]at h;subst h;obtain⟨t,rfl⟩:=r;exact⟨_,.int i t⟩
 |.str x,v,u,h,r=>by simp only[Rep]at h;subst h;obtain⟨t,rfl⟩:=r;exact⟨_,.str x t⟩
 |.list ds,v,u,h,r=>by
  simp only[Rep]at h
  obtain⟨a,vs,rfl,e,h⟩:=h
  cases r
  obtain⟨its,rv,⟨o,n,e1,e2,e3,e4⟩,hz⟩:=I.list (SqL.of e)
  obtain⟨as,q⟩:=Reps.reads I h rv
  exact⟨_,reads_list_at e1 e2 e4 (by simpa using q)⟩
 |.tuple ds,v,u,h,r=>by
  simp only[Rep]at h
  obtain⟨a,vs,rfl,e,h⟩:=h
  cases r
  obtain⟨its,rv,⟨o,e1,e2,n,e4⟩,hz⟩:=I.tuple (SqT.of e)
  obtain⟨as,q⟩:=Reps.reads I h rv
  exact⟨_,reads_tuple_at e1 e2 e4 (by simpa using q)⟩
 |.dict _,v,u,h,r=>by simp only[Rep]at h
theorem Reps.reads(I:Inv X pins σ H s):∀{ds:List PyData}{vs:List V}{us:List Value},Reps H vs ds->Vals vs us->∃as,ReadsAll s.heap us ds as
 |[],[],us,h,r=>by cases r;exact⟨_,.nil⟩
 |[],v::vs,us,h,r=>by simp only[Reps]at h
 |d::ds,[],us,h,r=>by simp only[Reps]at h
 |d::ds,v::vs,us,h,r=>by
  simp only[Reps]at h
  cases r with
  |cons r1 r2 =>
   obtain⟨as,q⟩:=Rep.reads I h.1 r1
   obtain⟨bs,q2⟩:=Reps.reads I h.2 r2
   exact⟨_,.cons q q2⟩
end
end
def rEqD:R2:=λx y H Q=>∃d e,Rep H x d/\Rep H y e/\SeqAt.shaped d=true/\SeqAt.shaped e=true/\Q (.bl (PyData.eqv d e)) H
theorem op_eqD(hu:X.A.units+64<cLine):OpR X (compareOp .Eq) rEqD:=by
 intro pins s σ H x y v u Q I rx ry h
 obtain⟨d,e,hd,he,sd,se,q⟩:=h
 obtain⟨as,r1⟩:=hd.reads I rx
 obtain⟨bs,r2⟩:=he.reads I ry
 exact eq_dataH r1 r2 sd se hu ⟨.bl _,H,I,rfl,q⟩
def rNeD:R2:=λx y H Q=>∃d e,Rep H x d/\Rep H y e/\SeqAt.shaped d=true/\SeqAt.shaped e=true/\Q (.bl (!PyData.eqv d e)) H
theorem op_neD(hu:X.A.units+64<cLine):OpR X (compareOp .NotEq) rNeD:=by
 intro pins s σ H x y v u Q I rx ry h
 obtain⟨d,e,hd,he,sd,se,q⟩:=h
 obtain⟨as,r1⟩:=hd.reads I rx
 obtain⟨bs,r2⟩:=he.reads I ry
 exact ne_dataH r1 r2 sd se hu ⟨.bl _,H,I,rfl,q⟩
def revS(z:Str):Str:=⟨z.cps.reverse⟩
theorem jl2(z:Str)(u:Tok):Txt.sliceBy z none none (-1,u)=revS z:=by
 have h:=step_rev_list z u
 have e:(List.range z.length).map (λk=>z.cps.getD (z.length-1-k) 0)=z.cps.toList.reverse:=by
  apply List.ext_getElem?
  intro i
  by_cases hi:i<z.length
  ·have hz:z.length=z.cps.size:=rfl
   have hi':z.cps.size-1-i<z.cps.size:=by omega
   simp[hz,hi',Array.getD,hz▸hi]
  ·have hz:z.length=z.cps.size:=rfl
   have h1:((List.range z.length).map (λk=>z.cps.getD (z.length-1-k) 0))[i]?=none:=List.getElem?_eq_none_iff.mpr (by simp;omega)
   have h2:z.cps.toList.reverse[i]?=none:=List.getElem?_eq_none_iff.mpr (by simp;omega)
   rw[h1,h2]
 rw[e]at h
 have h2:(Txt.sliceBy z none none (-1,u)).cps=z.cps.reverse:=by
  apply Array.ext'
  simpa using h
 show(⟨(Txt.sliceBy z none none (-1,u)).cps⟩:Str)=⟨z.cps.reverse⟩
 rw[h2]
def jdn(te:TE):TE:=λσ H Q=>te σ H λx H1=>∃z,x=.str z/\z.length<=sizeLine/\Q (.str (revS z)) H1
end
theorem ke:bootBuiltins "len"=some (.builtin "len"):=by decide +kernel
theorem bt_max:bootBuiltins "max"=some (.builtin "max"):=by decide +kernel
theorem jas:bootBuiltins "isinstance"=some (.builtin "isinstance"):=by decide +kernel
theorem jae:bootBuiltins "repr"=some (.builtin "repr"):=by decide +kernel
theorem jav:bootBuiltins "sorted"=some (.builtin "sorted"):=by decide +kernel
theorem jbj:bootBuiltins "int"=some (.type "int"):=by decide +kernel
theorem zn:bootBuiltins "list"=some (.type "list"):=by decide +kernel
theorem y8:bootBuiltins "tuple"=some (.type "tuple"):=by decide +kernel
theorem ja2:bootBuiltins "range"=some (.type "range"):=by decide +kernel
theorem bt_enumerate:bootBuiltins "enumerate"=some (.type "enumerate"):=by decide +kernel
section
variable{X:Cx}
def isL(x:V)(H:Hp):Prop:=match x with
 |.ref p=>(jec (H p)).isSome=true
 |_=>False
def tBML(r:V->List V->Hp->VK->Prop)(to:TE)(t:TA):TE:=λσ H Q=>to σ H λx H1=>isL x H1/\t σ H1 λxs H2=>r x xs H2 Q
theorem isL.ty{K:PySem.W.Frag}{x:V}{H:Hp}(h:isL x H):tyV K "list" x H:=by
 unfold isL at h
 split at h
 ·rename_i p
  cases e:jec (H p)with
  |none=>rw[e]at h;cases h
  |some ys=>exact .inl ⟨rfl,ys,SqL.of (jeg e)⟩
 ·exact h.elim
variable{o e:Expr}{es:List Expr}{to:TE}{t:TA}{name:Str}{apos cpos:Pos}{id:String}{r:V->List V->Hp->VK->Prop}
theorem PE.imp{e:Expr}{t t':TE}(h:PE X e t)(hi:∀σ H Q,t' σ H Q->t σ H Q):PE X e t':=λpins s σ H Q I hw=>h pins s σ H Q I (hi σ H Q hw)
theorem pe_bmL(slot:Slot "list" name id)(hty:typeOf (.builtin id)=pure (.type "method_descriptor"))(hm:MtM X id r)(ho:PE X o to)(ha:PA X (e::es) t)(mono:∀σ H Q Q',(∀v H',Q v H'->Q' v H')->to σ H Q->to σ H Q')
  (hbase:attributeBase o name X.env (eval o X.env)=eval o X.env:=by rfl)
  (hfew:((backTo cpos (starEach (e::es) X.env)).all (λx=>!x.1) && (backToKw cpos (keywordEach [] X.env)).all (λx=>x.1.isSome)
   && decide ((e::es).length+([]:List Keyword).length+(if([]:List Keyword).isEmpty then 0 else 1)<30))=true:=by rfl)
  (hline:(apos.endLine == cpos.line)=true:=by rfl) (hs:starEach (e::es) X.env=(false,eval e X.env)::starEach es X.env:=by rfl) (hplain:(backTo cpos (starEach es X.env)).any (·.1)=false:=by rfl) :
  PE X (.Call (.Attribute o name apos) (e::es) [] cpos) (tBML r to t) :=
 (pe_bm PySem.F.plainAttrs_list slot hty hm ho ha hbase hfew hline hs hplain).imp λσ H Q h=>mono σ H _ _ (λv H' q=>⟨q.1.ty,q.2⟩) h
theorem jd3{i:Nat}:∀σ H Q Q',(∀v H',Q v H'->Q' v H')->tVar i σ H Q->tVar i σ H Q':=λ_ _ _ _ h ⟨v,e,q⟩=>⟨v,e,h v _ q⟩
def jgt:V->List V->Hp->VK->Prop:=λx vs H Q=>match x,vs with
 |.ref l,[y]=>∃xs,jec (H l)=some xs/\xs.length<sizeLine/\Q .non (upd H l (.lst (xs++[y])))
 |_,_=>False
theorem yb:MtM X "list.append" jgt:=by
 intro pins s σ H x vs v us Q I rx rv h
 unfold jgt at h
 split at h
 ·rename_i l y
  obtain⟨xs,e,h⟩:=h
  exact jay pins s σ H _ _ v us Q I rx rv ⟨l,xs,y,rfl,rfl,jeg e,h⟩
 ·exact h.elim
def rEqU:R2:=λx y H Q=>match x,y with
 |.int i,.int j=>Q (.bl (decide (i=j))) H
 |.bl i,.bl j=>Q (.bl (decide (i=j))) H
 |.str i,.str j=>Q (.bl (decide (i=j))) H
 |.ref a,.ref b=>rEqD (.ref a) (.ref b) H Q
 |x,y=>scal x y=true/\Q (.bl (decide (x=y))) H
def rNeU:R2:=λx y H Q=>match x,y with
 |.int i,.int j=>Q (.bl (!decide (i=j))) H
 |.bl i,.bl j=>Q (.bl (!decide (i=j))) H
 |.str i,.str j=>Q (.bl (!decide (i=j))) H
 |.ref a,.ref b=>rNeD (.ref a) (.ref b) H Q
 |x,y=>scal x y=true/\Q (.bl (!decide (x=y))) H
theorem yh(hu:X.A.units+64<cLine):OpR X (compareOp .Eq) rEqU:=by
 intro pins s σ H x y v u Q I rx ry h
 unfold rEqU at h
 split at h
 ·exact jbh pins s σ H _ _ v u Q I rx ry ⟨rfl,by simpa using h⟩
 ·exact jbh pins s σ H _ _ v u Q I rx ry ⟨rfl,by simpa using h⟩
 ·exact jbh pins s σ H _ _ v u Q I rx ry ⟨rfl,by simpa using h⟩
 ·exact op_eqD hu pins s σ H _ _ v u Q I rx ry h
 ·exact jbh pins s σ H _ _ v u Q I rx ry h
theorem zw(hu:X.A.units+64<cLine):OpR X (compareOp .NotEq) rNeU:=by
 intro pins s σ H x y v u Q I rx ry h
 unfold rNeU at h
 split at h
 ·exact jbi pins s σ H _ _ v u Q I rx ry ⟨rfl,by simpa using h⟩
 ·exact jbi pins s σ H _ _ v u Q I rx ry ⟨rfl,by simpa using h⟩
 ·exact jbi pins s σ H _ _ v u Q I rx ry ⟨rfl,by simpa using h⟩
 ·exact op_neD hu pins s σ H _ _ v u Q I rx ry h
 ·exact jbi pins s σ H _ _ v u Q I rx ry h
theorem jcn(H:Hp)(Q:VK)(i j:Int):rLtU (.int i) (.int j) H Q=(Q (.bl (decide (i<j))) H):=rfl
theorem jco(H:Hp)(Q:VK)(i j:Str):rLtU (.str i) (.str j) H Q=(Q (.bl (decide (i.cps.toList<j.cps.toList))) H):=rfl
theorem jcm(H:Hp)(Q:VK)(z:Str)(i:Int):rIxU (.str z) (.int i) H Q=(z.length<=sizeLine/\∃c,atI z.cps.toList i=some c/\Q (.str ⟨#[c]⟩) H):=rfl
theorem jcg(H:Hp)(Q:VK)(p:Addr)(i:Int):rIxU (.ref p) (.int i) H Q=(∃xs,jeq (H p)=some xs/\∃v,atI xs i=some v/\Q v H):=rfl
theorem jb7(H:Hp)(Q:VK)(z:Str):jhh [.str z] H Q=(z.length<=sizeLine/\Q (.int z.length) H):=rfl
theorem jb6(H:Hp)(Q:VK)(p:Addr):jhh [.ref p] H Q=(∃ys,jeq (H p)=some ys/\Q (.int ys.length) H):=rfl
theorem jb8(H:Hp)(Q:VK)(i j:Int):jky [.int i,.int j] H Q=(Q (.int (if j>i then j else i)) H):=rfl
theorem jb5(H:Hp)(Q:VK)(i:Int):jit [.int i] H Q=(Q (.int i) H):=rfl
theorem jck(H:Hp)(Q:VK)(k:Bool):jit [.bl k] H Q=(Q (.int (if k then 1 else 0)) H):=rfl
theorem jb1(H:Hp)(Q:VK)(z:Str):jhi [.str z] H Q=(z.length<=sizeLine/\∀l,H l=none->Q (.ref l) (upd H l (.lst (sgn z)))):=rfl
theorem jb0(H:Hp)(Q:VK)(p:Addr):jhi [.ref p] H Q=(∃ys,jeq (H p)=some ys/\∀l,H l=none->Q (.ref l) (upd H l (.lst ys))):=rfl
theorem jcb(H:Hp)(Q:VK)(l:Addr)(i:Int):jk0 (.ref l) [.int i] H Q=(∃xs,jec (H l)=some xs/\0<=i/\∃y,xs[i.toNat]?=some y/\Q y (upd H l (.lst (xs.eraseIdx i.toNat)))):=rfl
theorem jby(H:Hp)(Q:VK)(l:Addr)(y:V):jgt (.ref l) [y] H Q=(∃xs,jec (H l)=some xs/\xs.length<sizeLine/\Q .non (upd H l (.lst (xs++[y])))):=rfl
theorem jci(H:Hp)(Q:VK)(i j:Int):rEqU (.int i) (.int j) H Q=(Q (.bl (decide (i=j))) H):=rfl
theorem jcz(H:Hp)(Q:VK)(i j:Bool):rEqU (.bl i) (.bl j) H Q=(Q (.bl (decide (i=j))) H):=rfl
theorem jcj(H:Hp)(Q:VK)(i j:Str):rEqU (.str i) (.str j) H Q=(Q (.bl (decide (i=j))) H):=rfl
theorem jch(H:Hp)(Q:VK)(i j:Addr):rEqU (.ref i) (.ref j) H Q=(rEqD (.ref i) (.ref j) H Q):=rfl
theorem jcp(H:Hp)(Q:VK)(i j:Int):rNeU (.int i) (.int j) H Q=(Q (.bl (!decide (i=j))) H):=rfl
theorem jc1(H:Hp)(Q:VK)(i j:Bool):rNeU (.bl i) (.bl j) H Q=(Q (.bl (!decide (i=j))) H):=rfl
theorem jcr(H:Hp)(Q:VK)(i j:Str):rNeU (.str i) (.str j) H Q=(Q (.bl (!decide (i=j))) H):=rfl
theorem jcq(H:Hp)(Q:VK)(i j:Addr):rNeU (.ref i) (.ref j) H Q=(rNeD (.ref i) (.ref j) H Q):=rfl
theorem jcc(p:Addr)(k:Int)(v:V)(H:Hp)(Q:Hp->Prop):jm9 (.ref p) (.int k) v H Q=(∃xs,jec (H p)=some xs/\∃j,ixN xs.length k=some j/\Q (upd H p (.lst (xs.set j v)))):=rfl
theorem jcy(p:Addr)(H:Hp):isL (.ref p) H=((jec (H p)).isSome=true):=rfl
def jep(J:It)(g:TG)(tb:TS)(D:Ends)(σ:L2.St)(H1:Hp):Prop:=∃W:Nat->Nat->L2.St->Hp->Prop,(∃m,W 0 m σ H1)/\∀i m σ H,W i m σ H ->
 (J.stop i H/\D.nx σ H)\/(J.go i H/\∃N:L2.St->Hp->Prop,(∀σ' H',N σ' H'->∃m',m'<m/\W (i+1) m' σ' H')/\∀x H',J.yld i H x H'->g x σ H' λσ2 H2=>tb {D with nx:=N,ct:=N,bk:=D.nx} σ2 H2)
theorem jc2(wi:TI)(g:TG)(tb:TS)(D:Ends)(σ:L2.St)(H:Hp):tFor wi g tb D σ H=wi σ H λJ H1=>jep J g tb D σ H1:=rfl
theorem jd7{lo:Int}{n:Nat}{g:TG}{tb:TS}{D:Ends}{σ:L2.St}{H:Hp}(Pv:Nat->L2.St->Hp->Prop)(h0:Pv 0 σ H)
  (hs:∀i σ H,i<n->Pv i σ H->g (.int (lo+i)) σ H λσ2 H2=>tb {D with nx:=Pv (i+1),ct:=Pv (i+1),bk:=D.nx} σ2 H2) (hd:∀σ H,Pv n σ H->D.nx σ H):jep (Itr lo n) g tb D σ H:=jlj Pv h0 hs hd
theorem jmo{z:Str}{g:TG}{tb:TS}{D:Ends}{σ:L2.St}{H:Hp}(Pv:Nat->L2.St->Hp->Prop)(h0:Pv 0 σ H)
  (hs:∀i c σ H,z.cps.toList[i]?=some c->Pv i σ H->g (.str ⟨#[c]⟩) σ H λσ2 H2=>tb {D with nx:=Pv (i+1),ct:=Pv (i+1),bk:=D.nx} σ2 H2) (hd:∀σ H,Pv z.length σ H->D.nx σ H):jep (ItS z) g tb D σ H:=jnl Pv h0 hs hd
theorem jfz{K:PySem.W.Frag}{a:Addr}{xs:List V}{g:TG}{tb:TS}{D:Ends}{σ:L2.St}{H:Hp}(Pv:Nat->L2.St->Hp->Prop)(h0:Pv 0 σ H)(hl:∀i σ H,i<=xs.length->Pv i σ H->H a=some (.lst xs))
  (hs:∀i x σ H,xs[i]?=some x->Pv i σ H->g x σ H λσ2 H2=>tb {D with nx:=Pv (i+1),ct:=Pv (i+1),bk:=D.nx} σ2 H2) (hd:∀σ H,Pv xs.length σ H->D.nx σ H):jep (Itl K a) g tb D σ H :=
 jml Pv h0 (λi σ H h p=>SqL.of (hl i σ H h p)) hs hd
theorem jgm{K:PySem.W.Frag}{a:Addr}{xs:List V}{g:TG}{tb:TS}{D:Ends}{σ:L2.St}{H:Hp}(Pv:Nat->L2.St->Hp->Prop)(h0:Pv 0 σ H)(hl:∀i σ H,i<=xs.length->Pv i σ H->H a=some (.tup xs))
  (hs:∀i x σ H,xs[i]?=some x->Pv i σ H->g x σ H λσ2 H2=>tb {D with nx:=Pv (i+1),ct:=Pv (i+1),bk:=D.nx} σ2 H2) (hd:∀σ H,Pv xs.length σ H->D.nx σ H):jep (Itt K a) g tb D σ H :=
 jnm Pv h0 (λi σ H h p=>SqT.of (hl i σ H h p)) hs hd
end
def clOf(env:Env):List (Str×NameKind)->List (Str×Addr)->List (Str×Addr)
 |[],cs=>cs
 |(n,k)::r,cs=>clOf env r (if k == .free then(n,(env.cells.lookup n).getD 0)::cs else cs)
theorem jfp{env:Env}{scope:Scope}(h:∀y∈scope.names,y.2=.free->∃c,env.cells.lookup y.1=some c):closureFor scope env=pure (clOf env scope.names []):=by
 have gen:∀(l:List (Str×NameKind))(cs:List (Str×Addr)),(∀y∈l,y.2=.free->∃c,env.cells.lookup y.1=some c) ->
   (forIn l cs λx r=>(match x with|(name,kind)=>if(kind == NameKind.free)=true then do let c <-cellOf env name;pure (ForInStep.yield ((name,c)::r))else pure (ForInStep.yield r)):Sem (List (Str×Addr)))=pure (clOf env l cs):=by
  intro l
  induction l with
  |nil=>intro cs _;rfl
  |cons y l ih =>
   intro cs hy
   obtain⟨n,k⟩:=y
   rw[List.forIn_cons]
   have hr:=λz hz=>hy z (Oy _ hz)
   by_cases hk:k=.free
   ·subst hk
    obtain⟨c,hc⟩:=hy _ (Ub ..) rfl
    have hc':env.cells.lookup n=some c:=hc
    have e:cellOf env n=pure c:=by unfold cellOf;rw[hc']
    simp only[Wb,Ik,e,pure_bind]
    rw[ih _ hr]
    simp[clOf,hc']
   ·have hb:(k == NameKind.free)=false:=by simpa using hk
    simp only[hb,Af,Ih,pure_bind]
    rw[ih _ hr]
    simp[clOf,hb]
 exact(Uh (· >>= λs=>pure s) (gen scope.names [] h)).trans (by rfl)
theorem jgj{env:Env}:∀(l:List (Str×NameKind))(cs:List (Str×Addr))(x:Str)(c:Addr),(∀y∈l,y.2=.free->∃c,env.cells.lookup y.1=some c)->(∀x c,cs.lookup x=some c->env.cells.lookup x=some c) ->
  (clOf env l cs).lookup x=some c->env.cells.lookup x=some c
 |[],cs,x,c,_,hc,h=>hc x c h
 |(n,k)::r,cs,x,c,hl,hc,h=>by
  unfold clOf at h
  refine jgj r _ x c (λy hy=>hl y (Oy _ hy)) (λz d hz=>?_) h
  split at hz
  ·rename_i hk
   rw[List.lookup_cons]at hz
   cases hzn:z == n with
   |true =>
    rw[hzn]at hz
    obtain⟨c',hc'⟩:=hl _ (Ub ..) (by simpa using hk)
    have hc'':env.cells.lookup n=some c':=hc'
    have ez:z=n:=by simpa using hzn
    subst ez
    rw[hc'']at hz
    rw[hc'']
    exact hz
   |false=>rw[hzn]at hz;exact hc z d hz
  ·exact hc z d hz
theorem jh4{env:Env}:∀(l:List (Str×NameKind))(cs:List (Str×Addr))(x:Str),(∃c,cs.lookup x=some c)->∃c,(clOf env l cs).lookup x=some c
 |[],cs,x,h=>h
 |(n,k)::r,cs,x,h=>by
  unfold clOf
  refine jh4 r _ x ?_
  split
  ·rw[List.lookup_cons]
   cases x == n with
   |true=>exact⟨_,rfl⟩
   |false=>exact h
  ·exact h
theorem jgi{env:Env}:∀(l:List (Str×NameKind))(cs:List (Str×Addr))(x:Str),(x,NameKind.free)∈l->∃c,(clOf env l cs).lookup x=some c
 |(n,k)::r,cs,x,h=>by
  unfold clOf
  rcases Il.mp h with h|h
  ·cases h
   refine jh4 r _ _ ?_
   simp[List.lookup_cons]
  ·exact jgi r _ x h
abbrev Cx.comp(X:Cx)(scope:Scope)(C:Addr)(Nc:List Str)(s3:Shared)(H3:Hp)(fp:List Addr):Cx :=
 {X with N:=Nc,s₀:=s3,H₀:=H3,env:=compEnvC scope (clOf X.env scope.names []) C X.env,outer:=X.stack,stack:=X.stack,ex:=fp,fn:=λ_=>false,pn:=[],xe:=λ_ _=>False}
def jcx(js:List (Option Nat))(σ:L2.St):L2.St:=js.map λo=>o.bind λj=>(σ[j]?).getD none
def je4(D:Addr)(te:TE):TS:=λE σ H=>te σ H λv H1=>∃ys,jec (H1 D)=some ys/\ys.length<sizeLine/\E.nx σ (upd H1 D (.lst (ys++[v])))
def jc9(wi:TI)(g:TG)(js:List (Option Nat))(te:TE):TE:=λσ H Q=>wi σ H λJ H1=>∀D,H1 D=none ->
 jep J g (je4 D te) {nx:=λ_ H'=>Q (.ref D) H',rt:=λ_ _=>False} (jcx js σ) (upd H1 D (.lst []))
structure CompOk(X:Cx)(scope:Scope)(Nc:List Str)(js:List (Option Nat)):Prop where
 kind:scope.kind=.function
 nocell:∀y∈scope.names,y.2≠.cell
 loc:∀y∈scope.names,y.2=.local->scope.names.lookup y.1=some .local
 free:∀y∈scope.names,y.2=.free->X.env.kindOf y.1=some .cell\/X.env.kindOf y.1=some .free
 len:js.length=Nc.length
 nol:∀x,(x,NameKind.free)∈scope.names->scope.names.lookup x≠some .local
 see:∀(i j:Nat)(x:Str),js[i]?=some (some j)->Nc[i]?=some x->X.N[j]?=some x/\(x,NameKind.free)∈scope.names
section
variable{X:Cx}{pins:List (Addr×Obj)}{σ:L2.St}{H:Hp}{s:Shared}{scope:Scope}{Nc:List Str}{js:List (Option Nat)}{fp:List Addr}
theorem CompOk.has(c:CompOk X scope Nc js)(I:Inv X pins σ H s):∀y∈scope.names,y.2=.free->∃a,X.env.cells.lookup y.1=some a:=λy hy hf=>I.ok.has _ (c.free y hy hf)
theorem jf3{env:Env}{x:Str}:∀{l:List (Str×NameKind)},(∀y∈l,y.2≠.cell) ->
  ((l.map fun(n,k)=>if(k == NameKind.free && env.scope.kind == .function && env.kindOf n == some .cell)then(n,NameKind.cell)else(n,k)).lookup x=some .cell \/
   (l.map fun(n,k)=>if(k == NameKind.free && env.scope.kind == .function && env.kindOf n == some .cell)then(n,NameKind.cell)else(n,k)).lookup x=some .free)->(x,NameKind.free)∈l
 |[],_,h=>by simp at h
 |(n,k)::r,hc,h=>by
  rw[Ak]at h
  by_cases hx:x=n
  ·subst hx
   have hk:k=.free:=by
    have hk':k≠.cell:=hc _ (Ub ..)
    by_cases hcond:(k == NameKind.free && env.scope.kind == .function && env.kindOf x == some .cell)=true
    ·rw[Ul,Ul]at hcond
     simpa using hcond.1.1
    ·simp only[hcond,Af,Ih,List.lookup_cons,Wb]at h
     rcases h with h|h
     ·exact absurd (A7 h) hk'
     ·exact A7 h
   subst hk
   exact Ub ..
  ·refine Oy _ (jf3 (env:=env) (λy hy=>hc y (Oy _ hy)) ?_)
   have hxn:(x == n)=false:=by simpa using hx
   by_cases hcond:(k == NameKind.free && env.scope.kind == .function && env.kindOf n == some .cell)=true
   ·simpa only[hcond,Ik,List.lookup_cons,hxn]using h
   ·simpa only[hcond,Af,Ih,List.lookup_cons,hxn]using h
theorem jgg{env:Env}{x:Str}:∀{l:List (Str×NameKind)},
  (l.map fun(n,k)=>if(k == NameKind.free && env.scope.kind == .function && env.kindOf n == some .cell)then(n,NameKind.cell)else(n,k)).lookup x=some .local->l.lookup x=some .local
 |[],h=>by simp at h
 |(n,k)::r,h=>by
  rw[Ak]at h
  by_cases hx:x=n
  ·subst hx
   by_cases hcond:(k == NameKind.free && env.scope.kind == .function && env.kindOf x == some .cell)=true
   ·simp only[hcond,Ik,List.lookup_cons,Wb]at h
    cases h
   ·simp only[hcond,Af,Ih,List.lookup_cons,Wb]at h
    simp only[List.lookup_cons,Wb]
    exact h
  ·have hxn:(x == n)=false:=by simpa using hx
   rw[List.lookup_cons,hxn]
   refine jgg (env:=env) ?_
   by_cases hcond:(k == NameKind.free && env.scope.kind == .function && env.kindOf n == some .cell)=true
   ·simpa only[hcond,Ik,List.lookup_cons,hxn]using h
   ·simpa only[hcond,Af,Ih,List.lookup_cons,hxn]using h
theorem jni(c:CompOk X scope Nc js)(I:Inv X pins σ H s)(hf:∀b∈fp,FpOk X pins H b)(ho:∀b∈fp,∃o,s.heap.get? b=some o):(X.comp scope s.heap.objs.size Nc s H fp).Ok:=by
 have hs:=c.has I
 have sub:∀x a,(clOf X.env scope.names []).lookup x=some a->X.env.cells.lookup x=some a:=λx a=>jgj _ _ x a hs (λ_ _ z=>nomatch z)
 refine⟨I.ok.mod,c.kind,I.ok.glob,I.ok.blt,Al _,λx y a e1 e2=>I.ok.inj x y a (sub x a e1) (sub y a e2),λx h=>jgi _ _ x (jf3 (env:=X.env) c.nocell h),(λx a h=>nomatch h),I.ok.hd,I.ok.frames,.inl rfl,λb hb=>⟨?_,λx a e=>?_⟩,I.bs,
  Io I.ok.bsz I.sz,λb o e hb=>?_,λb hb hb'=>?_,I.stack,I.stkFree⟩
 ·obtain⟨o,e⟩:=ho b hb
  exact Ip (A6 e)
 ·exact(hf b hb).2.2.2.2.1 x a (sub x a e)
 ·rcases(hf b hb).2.2.2.1 with z|z
  ·exact I.ok.noex b o e z
  ·exact absurd (Ig (A6 (I.ok.bs b o e).1) z) (Uz _)
 ·rcases Il.mp (I.stkSub b hb')with z|z
  ·exact(hf b hb).2.1 z
  ·exact(hf b hb).2.2.1 z
theorem ji3(c:CompOk X scope Nc js)(I:Inv X pins σ H s)(hf:∀b∈fp,FpOk X pins H b)(ho:∀b∈fp,∃o,s.heap.get? b=some o){h':Heap}{m:Str->Option Value}{tk:Nat}(hn:h'.Ns s.heap.objs.size m)
  (hk:∀b o,s.heap.get? b=some o->h'.get? b=some o):Inv (X.comp scope s.heap.objs.size Nc s H fp) [] (jcx js σ) H {s with heap:=h',toks:=tk}:=by
 have hs:=c.has I
 have sub:∀x a,(clOf X.env scope.names []).lookup x=some a->X.env.cells.lookup x=some a:=λx a=>jgj _ _ x a hs (λ_ _ z=>nomatch z)
 refine⟨jni c I hf ho,rfl,I.bare,Un.kept hk,⟨m,hn,λi x v e1 e2 e3=>?_⟩,λx a e=>?_,I.hok.fresh (Al _),λx a e=>I.freeC x a (sub x a e),(λp hp=>nomatch hp),I.hok.kept hk,by simp only[jcx,Aa];exact c.len⟩
 ·have e2':(jcx js σ)[i]?=some (some v):=e2
  unfold jcx at e2'
  rw[A9]at e2'
  cases ej:js[i]? with
  |none=>rw[ej]at e2';cases e2'
  |some o =>
   rw[ej]at e2'
   cases o with
   |none=>cases e2'
   |some j =>
    have e4:(σ[j]?).getD none=some v:=A7 e2'
    have e5:σ[j]?=some (some v):=by
     cases q:σ[j]? with
     |none=>rw[q]at e4;cases e4
     |some w=>rw[q]at e4;exact Uh some e4
    obtain⟨n1,n2⟩:=c.see i j x ej e1
    have hkd:=c.free _ n2 rfl
    obtain⟨a,ha⟩:=jgi (env:=X.env) scope.names [] x n2
    obtain⟨m0,_,hl⟩:=I.loc
    obtain⟨u,r,l⟩:=hl j x v n1 e5 (by
     rcases hkd with z|z
     ·exact .inr (.inl z)
     ·exact .inr (.inr z))
    refine⟨u,r,?_⟩
    rcases l with⟨k,_⟩|⟨_,a',ha',hcell⟩
    ·rcases hkd with z|z
     ·rw[z]at k;cases k
     ·rw[z]at k;cases k
    ·have:a'=a:=A7 (ha'.symm.trans (sub x a ha))
     subst this
     refine .inr ⟨?_,a',ha,?_⟩
     ·rcases e3 with z|z|z
      ·exfalso
       have q:(relabel scope X.env).names.lookup x=some .local:=z
       exact c.nol x n2 (jgg q)
      ·exact .inl z
      ·exact .inr z
     ·obtain⟨o,q,d⟩:=hcell
      exact⟨o,hk _ o q,d⟩
 ·obtain⟨v,o,q,d⟩:=I.cell x a (sub x a e)
  exact⟨v,o,hk _ o q,d⟩
theorem jfq(I:Inv X pins σ H s)(hf:∀b∈fp,FpOk X pins H b){σ':L2.St}{H':Hp}{s':Shared}{h'':Heap}(J:Inv (X.comp scope s.heap.objs.size Nc s H fp) [] σ' H' s')(hs:Heap.SameBut s.heap.objs.size s'.heap h'') :
  Inv X pins σ H' {s' with heap:=h''}:=by
 have ne:∀b o,s.heap.get? b=some o->b≠s.heap.objs.size:=λb o e=>Ip (A6 e)
 have u:Un (frs X.stack) fp H H' s.heap s'.heap:=J.base
 refine I.call' (s':={s' with heap:=h''}) (ch:=fp) J.os ⟨λb o e n hb hx=>?_,λb o e n hb hx=>?_,u.free,λb o e hx=>?_,u.tups,u.frzs,u.tbls⟩ (λb o e=>?_) J.bare λb hb=>?_
 ·exact(hs.2 b (ne b o e)).trans (u.keep b o e n hb hx)
 ·obtain⟨sl,q⟩:=u.slot b o e n hb hx
  exact⟨sl,(hs.2 b (ne b o e)).trans q⟩
 ·obtain⟨o',q⟩:=u.there b o e hx
  exact⟨o',(hs.2 b (ne b o e)).trans q⟩
 ·have hC:H' s.heap.objs.size=none:=J.free
  refine(J.hok b o e).stay (λd v hd q=>(hs.2 d ?_).trans q) (λ_ q=>q) λ_ _ q=>q
  rintro rfl
  rcases hd with z|z
  ·rw[<-z,hC]at e;cases e
  ·rw[hC]at z;cases z
 ·obtain⟨_,f1,_,f3,f4,f5⟩:=hf b hb
  exact⟨f3,f1,f4,f5⟩
end
section
variable{X:Cx}{scope:Scope}{Nc:List Str}{js:List (Option Nat)}{elt tg iter:Expr}{pos:Pos}{wi:TI}{g:TG}{te:TE}
theorem jh5(hc:X.calm=true)(c:CompOk X scope Nc js)(hi:PI X tg iter wi)(hg:∀C s3 H3 fp,PG (X.comp scope C Nc s3 H3 fp) tg g)(he:∀C s3 H3 fp,PE (X.comp scope C Nc s3 H3 fp) elt te)
  {pins:List (Addr×Obj)}{s:Shared}{σ:L2.St}{H:Hp} (I:Inv X pins σ H s) {RR:Value->Addr->Result->Shared->Prop}{NX:Addr->Hp->Prop}
  (h:wi σ H λJ H1=>∀D,H1 D=none->jep J g (je4 D te) {nx:=λ_ H'=>NX D H',rt:=λ_ _=>False} (jcx js σ) (upd H1 D (.lst [])))
  (fin:∀D H3 s3 fp σ5 H5 s6,Inv X pins σ H3 s3->(∀b∈fp,FpOk X pins H3 b)->Inv (X.comp scope s3.heap.objs.size Nc s3 H3 fp) [] σ5 H5 s6->NX D H5->RR (.ref D) s3.heap.objs.size (.ok .next) s6) :
  wpAny (model X.prog X.w) X.A (eval iter X.env) (λx s₁=>wpAny (model X.prog X.w) X.A (pyIter x) (λit s₂=>wpAny (model X.prog X.w) X.A (newList []) (λacc s₃ =>
   wpAny (model X.prog X.w) X.A (newFunctionEnv scope X.env.globals (clOf X.env scope.names []) [] X.env.qual none .none (some X.env)) (λcenv s₄ =>
    codeAny (model X.prog X.w) X.A (.compStart (.ListComp elt [⟨tg,iter,[],0⟩] scope pos) 0 it acc {cenv with scope:=relabel scope X.env}) (RR acc cenv.locals) s₄) X.xe s₃) X.xe s₂) X.xe s₁) X.xe s:=by
 refine thn (hi pins s σ H _ I h) λv s1 h1=>thn h1 λitv s2 h2=>?_
 obtain⟨it,fp,tn,J,H2,rfl,I2,T,st2,f2,h2⟩:=h2
 refine Uj ?_ (by show 0<=sizeLine;decide)
 have hD:H2 s2.heap.objs.size=none:=I2.hok.fresh (Al _)
 have I3:Inv X pins σ (upd H2 s2.heap.objs.size (.lst [])) {s2 with heap:=s2.heap.push {cls:=.type "list",data:=.seq ([]:List Value).toArray}} :=
  I2.laid (t':=s2.toks) (λb u e=>Ad _ e) (Al _) ⟨by show 0<=sizeLine;decide,[],0,.nil,Ir _ rfl⟩
 have f3:∀b∈fp,FpOk X pins (upd H2 s2.heap.objs.size (.lst [])) b:=λb hb=>by
  obtain⟨q0,q⟩:=f2 b hb
  obtain⟨o,e,_⟩:=T.obj _ _ st2 b hb
  exact⟨by rw[jd (Ip (A6 e))];exact q0,q⟩
 have o3:∀b∈fp,∃o,(s2.heap.push {cls:=.type "list",data:=.seq ([]:List Value).toArray}).get? b=some o:=λb hb=>by
  obtain⟨o,e,_⟩:=T.obj _ _ st2 b hb
  exact⟨o,Ad _ e⟩
 have st3:tn 0 (s2.heap.push {cls:=.type "list",data:=.seq ([]:List Value).toArray}):=T.keep _ _ _ st2 λb _ o e=>Ad _ e
 generalize hh3:s2.heap.push {cls:=.type "list",data:=.seq ([]:List Value).toArray}=h3 at I3 o3 st3⊢
 refine Yc c.nocell (by intro y hy;simp at hy) (λh4 hn4 hs4=>?_) c.kind
 have k4:∀b o,h3.get? b=some o->h4.get? b=some o:=λb o e=>(hs4.2 b (Ip (A6 e))).trans (Ad _ e)
 have I4:=ji3 (tk:=s2.toks+([]:List (Str×Value)).length) c I3 f3 o3 hn4 k4
 have st4:tn 0 h4:=T.keep _ _ _ st3 λb _ o e=>k4 b o e
 obtain⟨W,⟨m0,w0⟩,turn⟩:=h2 _ hD
 let s3:Shared:={s2 with heap:=h3}
 let Y:Cx:=X.comp scope h3.objs.size Nc s3 (upd H2 s2.heap.objs.size (.lst [])) fp
 have stat:∀{H':Hp},(∀b∈fp,H' b=none)->∀b∈fp,FpOk Y [] H' b:=λhn b hb=>⟨hn b hb,(I4.ok.exf b hb).1,I4.ok.exfs b hb,.inl hb,(I4.ok.exf b hb).2,(λp hp=>nomatch hp)⟩
 have loop:codeAny (model X.prog X.w) X.A (.compLoop (.ListComp elt [⟨tg,iter,[],0⟩] scope pos) 0 (.ref it) (.ref s2.heap.objs.size) Y.env)
   (RR (.ref s2.heap.objs.size) h3.objs.size) {s2 with heap:=h4,toks:=s2.toks+([]:List (Str×Value)).length}:=by
  refine codeAny_loop rfl (λn s'=>∃i σ' H',Inv Y [] σ' H' s'/\tn i s'.heap/\(∀b∈fp,H' b=none)/\W i n σ' H') (λn s5 hI=>?_) m0 ⟨0,_,_,I4,st4,λb hb=>(f3 b hb).1,w0⟩
  obtain⟨i,σ5,H5,I5,st5,fr5,w5⟩:=hI
  show wpAny _ X.A ((compTurn (.ListComp elt [⟨tg,iter,[],0⟩] scope pos) 0 (.ref it) (.ref s2.heap.objs.size) Y.env).onRaise (λx=>do noteFrame x Y.env;theTreesLotGoes x)) _ _ s5
  refine wpAny_noted (Ol (E:=λ_ _=>False) ?_ (λ_ _ q=>q) λ_ _ z=>z.elim)
  rw[compTurn_list1]
  refine Ac (Uq (Ac ?_))
  rcases turn i n σ5 H5 w5 with⟨stop,qn⟩|⟨go,N,hN,step⟩
  ·refine thn (T.done Y rfl rfl rfl hc i [] s5 σ5 H5 _ I5 (stat fr5) st5 stop) λr s6 ⟨hr,I6⟩=>?_
   subst hr
   refine A5 ?_
   exact fin _ _ s3 fp σ5 H5 s6 I3 f3 I6 qn
  ·refine thn (T.item Y rfl rfl rfl hc i [] s5 σ5 H5 _ I5 (stat fr5) st5 go) λr s6 ⟨u,hr,h6⟩=>?_
   subst hr
   refine Ac (thn h6 λ_ s7 ⟨x,H7,I7,r7,y7,st7,fr7⟩=>?_)
   have I7':=I7.pinned (stat fr7) (T.obj _ _ st7)
   refine Ac (thn (hg _ _ _ _ _ s7 σ5 H7 x u _ I7' r7 (step x H7 y7)) λ_ s8 ⟨σ8,H8,I8,q8⟩=>?_)
   refine Ac (Ac (thn (he _ _ _ _ _ s8 σ8 H8 _ I8 q8) λv s9 ⟨y,H9,I9,r9,ys,e9,z9,n9⟩=>?_))
   refine Ac (thn (jay (X:=Y) _ s9 σ8 H9 (.ref s2.heap.objs.size) [y] (.ref s2.heap.objs.size) [v] (λw H'=>N σ8 H') I9 rfl (.cons r9 .nil) ⟨_,ys,y,rfl,rfl,jeg e9,z9,n9⟩) λw s10 ⟨_,H10,I10,_,n10⟩=>?_)
   refine A5 (A5 ⟨rfl,?_⟩)
   obtain⟨m',hm,w10⟩:=hN σ8 H10 n10
   refine⟨m',hm,i+1,σ8,H10,I10.unpinned,T.keep _ _ _ st7 λb hb o e=>(I10.pin (b,o) (A2 _ (A2 _ (jer hb e)))).1,λb hb=>?_,w10⟩
   obtain⟨o,e,d⟩:=T.obj _ _ st7 b hb
   exact(I10.pin (b,o) (A2 _ (A2 _ (jer hb e)))).2.1
 exact codeAny_compStart_list loop (T.self _ 0 _ _ _ st4 loop)
theorem pe_comp(hc:X.calm=true)(c:CompOk X scope Nc js)(hi:PI X tg iter wi)(hg:∀C s3 H3 fp,PG (X.comp scope C Nc s3 H3 fp) tg g)(he:∀C s3 H3 fp,PE (X.comp scope C Nc s3 H3 fp) elt te)
  (hs:∀x,foldedSetIterable iter X.env x=pure x:=by intro _;rfl):PE X (.ListComp elt [⟨tg,iter,[],0⟩] scope pos) (jc9 wi g js te):=by
 intro pins s σ H Q I h
 rw[eval_ListComp]
 refine Wq (use:=none) (g:=⟨tg,iter,[],0⟩) (gs:=[]) rfl hs (jfp (c.has I)) c.kind c.loc
  (jh5 (RR:=λacc C=>compPost (model X.prog X.w) X.A X.xe none (EP X pins σ Q) acc C) (NX:=λD H'=>Q (.ref D) H') hc c hi hg he I h λD H3 s3 fp σ5 H5 s6 I3 f3 I6 qn=>?_)
 obtain⟨m,hn,_⟩:=I6.loc
 exact⟨m,hn,λh' hs'=>⟨.ref D,H5,jfq I3 f3 I6 hs',rfl,qn⟩⟩
theorem ps_setc{i:Nat}{y:Str}{py spos:Pos}(hN:X.N.Nodup)(hiN:X.N[i]?=some y)(hy:Loc X.env.scope y)(hc:X.calm=true)(c:CompOk X scope Nc js)(hi:PI X tg iter wi)(hg:∀C s3 H3 fp,PG (X.comp scope C Nc s3 H3 fp) tg g)
  (he:∀C s3 H3 fp,PE (X.comp scope C Nc s3 H3 fp) elt te) (hsw:swapsWith (.ListComp elt [⟨tg,iter,[],0⟩] scope pos) (some (.Name y py)) spos.line X.env=pure true:=by rfl)
  (hs:∀x,foldedSetIterable iter X.env x=pure x:=by intro _;rfl) (hf:X.fn y=true\/X.env.scope.names.lookup y=some .local:=by first|exact .inl rfl|exact .inr rfl|assumption) :
  PS X (.Assign [.Name y py] (.ListComp elt [⟨tg,iter,[],0⟩] scope pos) spos) (tAsg (jc9 wi g js te) (jc4 i)):=by
 intro pins s σ H D I h
 rw[exec_Assign_Name_used _ _ _ _ hsw]
 refine Ac (Uq (Ac ?_))
 show wpAny _ X.A (do let _ <-comprehension (.ListComp elt [⟨tg,iter,[],0⟩] scope pos) scope X.env _ (newList []) false (eval iter X.env) (some (assign (.Name y py) X.env))) _ _ s
 refine Ac (Ol (Wq (use:=some (assign (.Name y py) X.env)) (g:=⟨tg,iter,[],0⟩) (gs:=[]) (Q:=λ_ s'=>SP X pins D .next s') rfl hs (jfp (c.has I)) c.kind c.loc
  (jh5 (RR:=λacc C=>compPost (model X.prog X.w) X.A X.xe (some (assign (.Name y py) X.env)) (λ_ s'=>SP X pins D .next s') acc C) (NX:=λDa H'=>D.nx (σ.set i (some (.ref Da))) H') hc c hi hg he I h λDa H3 s3 fp σ5 H5 s6 I3 f3 I6 qn=>?_))
  (λ_ s' hq=>A5 (A5 hq)) λ_ _ e=>e)
 obtain⟨m,hn,_⟩:=id I6.loc
 have I7:Inv X pins σ H5 s6:=jfq I3 f3 I6 (.refl ..)
 have hC:H5 s3.heap.objs.size=none:=I6.free
 have nL:s3.heap.objs.size≠X.env.locals:=Wo I3.lt
 have nc:∀x a,X.env.cells.lookup x=some a->a≠s3.heap.objs.size:=λx a e=>by
  obtain⟨v,q⟩:=I3.cell x a e
  exact Ip q.lt
 have np:∀p∈X.pn++pins,p.1≠s3.heap.objs.size:=λp hp=>Ip (A6 (I3.pin p hp).1)
 show wpAny _ _ (assign (.Name y py) X.env (.ref Da)) _ _ _
 refine wpAny_assign_Name (jf6 (v:=.ref Da) I7 hN hiN hy rfl (λs8 I8 hb=>?_) hf)
 obtain⟨a,hs8,ha⟩:=hb
 have nCa:s3.heap.objs.size≠a:=by
  rcases ha with z|z
  ·rw[z];exact nL
  ·exact(nc y a z).symm
 refine⟨m,hn.sameBut hs8 nCa,λh9 hs9=>?_⟩
 exact⟨_,H5,I8.turned (t':=s8.toks) (λb o hb e=>(hs9.2 b hb).trans e) hC nL (.inr (Io I3.sz (Al _))) nc np,qn⟩
end
section
variable{X:Cx}
def jhw:List V->Hp->VK->Prop:=λxs H Q=>match xs with
 |[.ref p]=>(∃ys,jec (H p)=some ys/\∀l,H l=none->Q (.ref l) (upd H l (.tup ys)))\/(∃ys,jgb (H p)=some ys/\Q (.ref p) H)
 |_=>False
theorem yg:jeb X (.type "tuple") jhw:=by
 intro pins s σ H xs us Q I r h
 unfold jhw at h
 split at h
 ·rename_i p
  rcases h with⟨ys,e,h⟩|⟨ys,e,h⟩
  ·exact jat pins s σ H _ us Q I r ⟨p,ys,rfl,.inl ⟨SqL.of (jeg e),h⟩⟩
  ·exact jat pins s σ H _ us Q I r ⟨p,ys,rfl,.inr ⟨SqT.of (jgr e),h⟩⟩
 ·exact h.elim
theorem jd1{p:Addr}{H:Hp}{Q:VK}{ys:List V}(e:H p=some (.lst ys))(h:∀l,H l=none->Q (.ref l) (upd H l (.tup ys))):jhw [.ref p] H Q:=.inl ⟨ys,by rw[e];rfl,h⟩
def jkz:R2:=λx y H Q=>match x,y with
 |.int i,.int j=>CMul i j/\Q (.int (i*j)) H
 |.ref l,.int k=>∃xs,jec (H l)=some xs/\0<=k/\k<2^62/\xs.length*k.toNat<=sizeLine/\∀p,H p=none->Q (.ref p) (upd H p (.lst (List.replicate k.toNat xs).flatten))
 |_,_=>False
theorem za:OpR X (binaryOp .Mult) jkz:=by
 intro pins s σ H x y v u Q I rx ry h
 cases x with
 |int i=>cases y with
  |int j=>exact op_mul pins s σ H _ _ v u Q I rx ry ⟨i,j,rfl,rfl,h⟩
  |_=>exact False.elim h
 |ref l=>cases y with
  |int k =>
   obtain⟨xs,e,k0,k1,h⟩:=h
   exact op_rep pins s σ H _ _ v u Q I rx ry ⟨l,k,xs,rfl,rfl,jeg e,by omega,by omega,h⟩
  |_=>exact False.elim h
 |_=>exact False.elim h
theorem jb9(H:Hp)(Q:VK)(i j:Int):jkz (.int i) (.int j) H Q=(CMul i j/\Q (.int (i*j)) H):=rfl
theorem jca(H:Hp)(Q:VK)(l:Addr)(k:Int):jkz (.ref l) (.int k) H Q=(∃xs,jec (H l)=some xs/\0<=k/\k<2^62/\xs.length*k.toNat<=sizeLine/\∀p,H p=none->Q (.ref p) (upd H p (.lst (List.replicate k.toNat xs).flatten))):=rfl
variable{o e:Expr}{es:List Expr}{to:TE}{t:TA}{name:Str}{apos cpos:Pos}{id:String}{r:V->List V->Hp->VK->Prop}
def cutS(z:Str)(lo hi:Option Int):Str:=⟨((z.cps.toList.drop (HT.sIx z.length 0 lo)).take (HT.sIx z.length z.length hi-HT.sIx z.length 0 lo)).toArray⟩
theorem jjj(lo hi:Option Int)(n:Nat):Builtin.Str.strSliceIndices lo hi 1 n=(List.range (HT.sIx n n hi-HT.sIx n 0 lo)).map (HT.sIx n 0 lo+·):=by
 rw[<-sliceRange_one]
 unfold Builtin.Str.strSliceIndices
 have e1:(match lo with|none=>(if(1:Int)>0 then(0:Int)else(n:Int)-1)|some i=>let i:=if i<0 then i+(n:Int)else i;if(1:Int)>0 then max 0 (min i (n:Int))else max (-1) (min i ((n:Int)-1)))=((HT.sIx n 0 lo:Nat):Int):=by
  cases lo with
  |none=>simp[HT.sIx]
  |some v =>
   simp only[show(1:Int)>0 by decide,Ik,HT.sIx]
   by_cases h:v<0
   ·simp only[h,Ik];omega
   ·simp only[h,Ih];omega
 have e2:(match hi with|none=>(if(1:Int)>0 then(n:Int)else -1)|some i=>let i:=if i<0 then i+(n:Int)else i;if(1:Int)>0 then max 0 (min i (n:Int))else max (-1) (min i ((n:Int)-1)))=((HT.sIx n n hi:Nat):Int):=by
  cases hi with
  |none=>simp[HT.sIx]
  |some v =>
   simp only[show(1:Int)>0 by decide,Ik,HT.sIx]
   by_cases h:v<0
   ·simp only[h,Ik];omega
   ·simp only[h,Ih];omega
 have key:∀a b a' b':Int,a=a'->b=b'->sliceRange a b 1=sliceRange a' b' 1:=by
  intro a b a' b' h1 h2
  rw[h1,h2]
 exact key _ _ _ _ e1 e2
theorem jj2(z:Str)(lo hi:Option Int):Txt.slice z lo hi=cutS z lo hi:=by
 have e:(Builtin.Str.strSliceIndices lo hi 1 z.length).filterMap (z.cps[·]?)=(z.cps.toList.drop (HT.sIx z.length 0 lo)).take (HT.sIx z.length z.length hi-HT.sIx z.length 0 lo):=by
  rw[jjj,pick_run]
 unfold Txt.slice cutS
 split
 ·rename_i h
  have h2:((Builtin.Str.strSliceIndices lo hi 1 z.length).length == z.length)=true:=by simpa using h
  have h3:(Builtin.Str.strSliceIndices lo hi 1 z.length).length=z.length:=eq_of_beq h2
  rw[jjj,Aa,Of]at h3
  have hl:z.cps.toList.length=z.length:=by simp[Str.length]
  have q:((z.cps.toList.drop (HT.sIx z.length 0 lo)).take (HT.sIx z.length z.length hi-HT.sIx z.length 0 lo))=z.cps.toList:=by
   have hb:HT.sIx z.length z.length hi<=z.length:=by
    cases hi with
    |none=>exact Al _
    |some v=>simp only[HT.sIx];split <;> omega
   by_cases h0:z.length=0
   ·have:z.cps.toList=[]:=Op.mp (by omega)
    rw[this];simp
   ·have ha:HT.sIx z.length 0 lo=0:=by omega
    rw[h3,ha,List.drop_zero]
    exact Iy (by omega)
  rw[q]
 ·rw[e]
def rSlS:V->Option Int->Option Int->Hp->VK->Prop:=λx lo hi H Q=>∃z,x=.str z/\z.length<=sizeLine/\Q (.str (cutS z lo hi)) H
theorem sl_str:SlR X rSlS:=by
 intro pins s σ H x v vl vu lo hi sl Q I rx hs pl pu h
 obtain⟨z,rfl,hz,q⟩:=h
 obtain⟨t,rfl⟩:=rx
 have gen:∀(l u:Option (Int×Tok)),vl=partValue l->vu=partValue u->lo=l.map (·.1)->hi=u.map (·.1) ->
   wpAny (model X.prog X.w) X.A (getItem (.str z t) (.ref sl)) (EP X pins σ Q) X.xe s:=by
  intro l u e1 e2 e3 e4
  subst e1 e2 e3 e4
  refine wpAny_getItem_str_slice (l:=l) (u:=u) (st:=none) hs (by rfl) ?_
  have e:(if((((none:Option (Int×Tok)).map (·.1)).getD 1 == 1 && (slicePicked z l u none).length == z.length)=true)then z else⟨((slicePicked z l u none).filterMap (z.cps[·]?)).toArray⟩)=cutS z (l.map (·.1)) (u.map (·.1)):=by
   rw[<-jj2];rfl
  refine post_val_or_str ⟨?_,λt' c=>⟨.str (cutS z (l.map (·.1)) (u.map (·.1))),H,I.tok c,⟨t',Uh (Value.str · t') e⟩,q⟩⟩
  rw[e,<-jj2]
  exact Io (Txt.slice_le _ _ _) hz
 refine⟨"str",_,F.slot_str_getitem.lookup,typeIs_str _ _ _,?_⟩
 cases pl with
 |none=>cases pu with
  |none=>exact gen none none rfl rfl rfl rfl
  |int j tj=>exact gen none (some (j,tj)) rfl rfl rfl rfl
 |int i ti=>cases pu with
  |none=>exact gen (some (i,ti)) none rfl rfl rfl rfl
  |int j tj=>exact gen (some (i,ti)) (some (j,tj)) rfl rfl rfl rfl
def jj1(sc:Scope)(N:List Str)(scope:Scope)(Nc:List Str)(js:List (Option Nat)):Bool :=
 (scope.kind == .function) && scope.names.all (λy=>!(y.2 == .cell)) && scope.names.all (λy=>!(y.2 == .local) || scope.names.lookup y.1 == some .local) &&
 scope.names.all (λy=>!(y.2 == .free) || ((sc.names.lookup y.1 == some .cell || sc.names.lookup y.1 == some .free) && !(scope.names.lookup y.1 == some .local))) && (js.length == Nc.length) &&
 (List.range js.length).all (λi=>match js[i]? with
  |some (some j)=>(N[j]? == Nc[i]?) && (match Nc[i]? with|some x=>scope.names.any (λy=>y.1 == x && y.2 == .free)|none=>true)
  |_=>true)
theorem jel{sc scope:Scope}{N Nc:List Str}{js:List (Option Nat)}(hd:jj1 sc N scope Nc js=true)(hsc:X.env.scope=sc:=by rfl)(hN:X.N=N:=by rfl):CompOk X scope Nc js:=by
 simp only[jj1,Ul,List.all_eq_true,Bool.or_eq_true,Bool.not_eq_true',beq_iff_eq,Ow]at hd
 obtain⟨⟨⟨⟨⟨h1,h2⟩,h3⟩,h4⟩,h5⟩,h6⟩:=hd
 have kk:∀x,X.env.kindOf x=sc.names.lookup x:=λx=>by rw[<-hsc];rfl
 refine⟨h1,λy hy e=>?_,λy hy e=>?_,λy hy e=>?_,h5,λx hx=>?_,λi j x e1 e2=>?_⟩
 ·have:=h2 y hy
  rw[e]at this;cases this
 ·rcases h3 y hy with q|q
  ·rw[e]at q;cases q
  ·exact q
 ·rcases h4 y hy with q|q
  ·rw[e]at q;cases q
  ·rw[kk]
   exact q.1
 ·rcases h4 _ hx with q|q
  ·cases q
  ·intro z
   have q2:=q.2
   rw[z]at q2
   cases q2
 ·have hi:i<js.length:=(Ab.mp e1).1
  have q:=h6 i hi
  rw[e1,e2]at q
  simp only[Ul,beq_iff_eq,List.any_eq_true]at q
  refine⟨by rw[hN];exact q.1,?_⟩
  obtain⟨y,hy,hy1,hy2⟩:=q.2
  obtain⟨a,b⟩:=y
  simp only at hy1 hy2
  subst hy1 hy2
  exact hy
theorem Reps.len{H:Hp}:∀{vs:List V}{ds:List PyData},Reps H vs ds->vs.length=ds.length
 |[],[],_=>rfl
 |[],_::_,h=>by simp only[Reps]at h
 |_::_,[],h=>by simp only[Reps]at h
 |_::vs,_::ds,h=>by simp only[Reps]at h;simp[Reps.len h.2]
theorem Reps.app{H:Hp}:∀{vs us:List V}{ds es:List PyData},Reps H vs ds->Reps H us es->Reps H (vs++us) (ds++es)
 |[],_,[],_,_,h=>h
 |[],_,_::_,_,h,_=>by simp only[Reps]at h
 |_::_,_,[],_,h,_=>by simp only[Reps]at h
 |_::vs,us,_::ds,es,h,h'=>by
  simp only[Reps]at h
  simp only[List.cons_append,Reps]
  exact⟨h.1,Reps.app h.2 h'⟩
mutual
def jek:PyData->Bool
 |.list _=>false
 |.tuple ds=>jd5 ds
 |.dict _=>false
 |_=>true
def jd5:List PyData->Bool
 |[]=>true
 |d::ds=>jek d && jd5 ds
end
mutual
theorem Rep.kp{S:List Addr}{H H':Hp}(k:Kp S H H'):∀{d:PyData}{v:V},jek d=true->Rep H v d->Rep H' v d
 |.none,_,_,h=>by simp only[Rep]at h⊢;exact h
 |.bool _,_,_,h=>by simp only[Rep]at h⊢;exact h
 |.int _,_,_,h=>by simp only[Rep]at h⊢;exact h
 |.str _,_,_,h=>by simp only[Rep]at h⊢;exact h
 |.list _,_,t,_=>by simp only[jek]at t;cases t
 |.tuple ds,_,t,h=>by
  simp only[Rep]at h⊢
  obtain⟨a,vs,e,e2,h⟩:=h
  exact⟨a,vs,e,k.tup _ _ e2,Reps.kp k (by simpa only[jek]using t) h⟩
 |.dict _,_,t,_=>by simp only[jek]at t;cases t
theorem Reps.kp{S:List Addr}{H H':Hp}(k:Kp S H H'):∀{ds:List PyData}{vs:List V},jd5 ds=true->Reps H vs ds->Reps H' vs ds
 |[],[],_,_=>by simp only[Reps]
 |[],_::_,_,h=>by simp only[Reps]at h
 |_::_,[],_,h=>by simp only[Reps]at h
 |d::ds,v::vs,t,h=>by
  simp only[Reps]at h⊢
  simp only[jd5,Ul]at t
  exact⟨Rep.kp k t.1 h.1,Reps.kp k t.2 h.2⟩
end
theorem Reps.ints(H:Hp):∀l:List Int,Reps H (l.map V.int) (l.map PyData.int)
 |[]=>by simp[Reps]
 |x::r=>by simp[Reps,Rep,Reps.ints H r]
theorem Reps.bools(H:Hp):∀l:List Bool,Reps H (l.map V.bl) (l.map PyData.bool)
 |[]=>by simp[Reps]
 |x::r=>by simp[Reps,Rep,Reps.bools H r]
end
def ItT(n:Nat)(vals:Nat->List V):It:=⟨λi _=>i<n,λi H x H'=>∃T,H T=none/\x=.ref T/\H'=upd H T (.tup (vals i)),λi _=>i=n⟩
theorem Inv.turnedNew{X:Cx}{pins:List (Addr×Obj)}{σ:L2.St}{H:Hp}{s:Shared}{h':Heap}{t':Nat}{fp wr:List Addr}{T:Addr}{xs:List V}{vs:List Value}(I:Inv X pins σ H s)(hf:∀b∈wr,FpOk X pins H b)
  (k:∀b o,b∉wr->s.heap.get? b=some o->h'.get? b=some o) (hT:s.heap.objs.size<=T) (tup:IsTup h' T vs.toArray) (r:Vals xs vs) (hz:xs.length<=sizeLine) (there:∀b∈wr,∃o,h'.get? b=some o) :
  Inv X pins σ (upd H T (.tup xs)) {s with heap:=h',toks:=t'}:=by
 have neT:∀b u,H b=some u->b≠T:=λb u e=>Ip (Ig (I.hok.lt e) hT)
 have nw:∀b u,H b=some u->b∉wr:=λb u e hb=>by rw[(hf b hb).1]at e;cases e
 refine I.step (g':=s.gens) (d':=s.drawn) (ch:=wr) (λb hb=>?_) (λb o _ _ hc e _=>k b o hc e) (λb o _ _ hc e _=>⟨o.slots,k b o hc e⟩) (λb o hc e n=>?_) (λb o hc e=>⟨o,k b o hc e⟩)
  (λb ys e=>by rw[jd (neT b _ e)];exact e) (λb o u e=>by rw[jd (neT b _ e)];exact e) (λb ps e=>⟨#[],by rw[jd (neT b _ e),e];simp⟩) (λm hm=>?_) (λb u e=>?_) I.bare
 ·obtain⟨_,f1,_,f3,f4,f5⟩:=hf b hb
  exact⟨f3,f1,f4,f5⟩
 ·rw[jd (Ip (Ig (A6 e) hT))];exact n
 ·obtain⟨o,es,ep,ho,rr⟩:=hm
  exact⟨o,es,ep,k _ o (λz=>(hf _ z).2.1 rfl) ho,rr⟩
 ·by_cases hb:b=T
  ·subst hb
   rw[jb]at e
   cases e
   exact⟨hz,vs,r,tup⟩
  ·rw[jd hb]at e
   refine(I.hok b u e).stay (λd v hd q=>k d v ?_ q) (λd q=>by rw[jd (neT d _ q)];exact q) λd ys q=>by rw[jd (neT d _ q)];exact q
   rcases hd with rfl|hd
   ·exact nw _ _ e
   ·exact nw _ _ hd
theorem jn4{P:Program}{w:World}{K:PySem.W.Frag}{elts:List Expr}{kk:Nat}{pos:Pos}{it:Addr}{fp wr:List Addr}{n:Nat}{Pt:Nat->Array Value->Prop}{St:Nat->Heap->Prop}{Mid:Nat->Addr->Heap->Prop}{vals:Nat->List V}
  (W:∀A:Around,A.handled=none->WalksT P w A it fp wr n Pt St Mid) (hI:it∈fp) (obj:∀i h,St i h->∀b∈fp,∃o,h.get? b=some o/\∀v,o.data≠.cell v)
  (hself:∀(A:Around)(i:Nat)(s:Shared)(Q:Value->Shared->Prop)(E:Value->Shared->Prop),St i s.heap->Q (.ref it) s->wpAny (model P w) A (pyIter (.ref it)) Q E s)
  (hv:∀i vs,Pt i vs->Vals (vals i) vs.toList) (hz:∀i,(vals i).length<=sizeLine):Turn P w K (.Tuple elts kk pos) (ItT n vals) fp it St where
 mem:=hI
 obj:=obj
 keep:=λi h h' st k=>by
  obtain⟨A,hA⟩:∃A:Around,A.handled=none:=⟨callerA,rfl⟩
  exact(W A hA).frame i h h' st k
 item:=by
  intro X hP hw hK hc i pins s σ H E I hf st hg
  subst hP hw hK
  have WA:=W X.A (I.ok.hd hc)
  refine WA.item i s _ _ hg st λT vs h' tk hp hT htup mid kk'=>⟨_,rfl,?_⟩
  have nTw:=WA.apart _ _ _ mid
  refine WA.go _ _ _ i T {s with heap:=h',toks:=tk} _ _ mid λh'' st'' k''=>?_
  have fw:∀b∈wr,FpOk X pins H b:=λb hb=>hf b (WA.sub b hb)
  have tup':IsTup h'' T vs:=by
   obtain⟨o,e,r⟩:=htup
   exact⟨o,k'' T o nTw e,r⟩
  refine⟨.ref T,upd H T (.tup (vals i)),?_,rfl,⟨T,I.hok.fresh hT,rfl,rfl⟩,st'',λb hb=>?_⟩
  ·exact I.turnedNew (fp:=fp) fw (λb o hb e=>k'' b o hb (kk' b o hb e)) hT (by simpa using tup') (hv i vs hp) (hz i) λb hb=>let⟨o,e,_⟩:=obj _ _ st'' b (WA.sub b hb);⟨o,e⟩
  ·have hlt:b<s.heap.objs.size:=by
    obtain⟨o,e,_⟩:=obj _ _ st b hb
    exact A6 e
   rw[jd (Ip (Ig hlt hT))]
   exact(hf b hb).1
 done:=by
  intro X hP hw hK hc i pins s σ H E I hf st hg
  subst hP hw hK
  have hi:i=n:=hg
  subst hi
  have WA:=W X.A (I.ok.hd hc)
  refine WA.done s _ _ st λh' tk kk'=>⟨rfl,?_⟩
  have fw:∀b∈wr,FpOk X pins H b:=λb hb=>hf b (WA.sub b hb)
  have nw:∀b u,H b=some u->b∉wr:=λb u e hb=>by rw[(fw b hb).1]at e;cases e
  refine I.step (g':=s.gens) (d':=s.drawn) (ch:=wr) (λb hb=>?_) (λb o _ _ hc e _=>kk' b o hc e) (λb o _ _ hc e _=>⟨o.slots,kk' b o hc e⟩) (λb o hc e n=>n) (λb o hc e=>⟨o,kk' b o hc e⟩)
   (λ_ _ e=>e) (λ_ _ _ e=>e) (λb ps e=>⟨#[],by rw[e];simp⟩) (λm hm=>?_) (λb u e=>?_) I.bare
  ·obtain⟨_,f1,_,f3,f4,f5⟩:=fw b hb
   exact⟨f3,f1,f4,f5⟩
  ·obtain⟨o,es,ep,ho,rr⟩:=hm
   exact⟨o,es,ep,kk' _ o (λz=>(fw _ z).2.1 rfl) ho,rr⟩
  ·refine(I.hok b u e).stay (λd v hd q=>kk' d v ?_ q) (λ_ q=>q) λ_ _ q=>q
   rcases hd with rfl|hd
   ·exact nw _ _ e
   ·exact nw _ _ hd
 self:=hself
theorem jlu{n:Nat}{vals:Nat->List V}{g:TG}{tb:TS}{D:Ends}{σ:L2.St}{H:Hp}(Pv:Nat->L2.St->Hp->Prop)(h0:Pv 0 σ H)
  (hs:∀i σ H T,i<n->Pv i σ H->H T=none->g (.ref T) σ (upd H T (.tup (vals i))) λσ2 H2=>tb {D with nx:=Pv (i+1),ct:=Pv (i+1),bk:=D.nx} σ2 H2) (hd:∀σ H,Pv n σ H->D.nx σ H):jep (ItT n vals) g tb D σ H:=by
 refine⟨λi m σ H=>m=n-i/\i<=n/\Pv i σ H,⟨n,by simp,O8 _,h0⟩,?_⟩
 rintro i m σ H ⟨rfl,hi,p⟩
 by_cases hlt:i<n
 ·refine .inr ⟨hlt,Pv (i+1),λσ' H' p'=>⟨n-(i+1),by omega,rfl,hlt,p'⟩,λx H' y=>?_⟩
  obtain⟨T,hT,e1,e2⟩:=y
  subst e1 e2
  exact hs i σ H T hlt p hT
 ·have e:i=n:=by omega
  subst e
  exact .inl ⟨rfl,hd σ H p⟩
def jfh(z:Str)(i:Nat):List V:=[.int (i:Int),.str ⟨#[z.cps.toList.getD i 0]⟩]
section
variable{X:Cx}
def jc5(ta:TA):TI:=λσ H R=>ta σ H λvs H1=>∃z,vs=[.str z]/\R (ItT z.length (jfh z)) H1
theorem jk3{P:Program}{w:World}{K:PySem.W.Frag}{elts:List Expr}{kk:Nat}{pos:Pos}(z:Str)(t:Tok)(e it:Addr)(ne:e≠it) :
  Turn P w K (.Tuple elts kk pos) (ItT z.length (jfh z)) [e,it] e (λi h=>(∃old,IsEnum h e it i old)/\h.IsStrIter it (strIterType z) z t i):=by
 have D:∀A:Around,A.handled=none->Draws P w A.in1 it [it] z.cps.size (λi v=>∃c u,z.cps[i]?=some c/\v=.str ⟨#[c]⟩ u) (λi h=>h.IsStrIter it (strIterType z) z t i):=λA hA=>by
  unfold strIterType
  split
  ·exact Draws.strAscii (A:=A.in1) (show A.in1.handled=none from hA) it z t
  ·exact Draws.strWide (A:=A.in1) (show A.in1.handled=none from hA) it z t
 refine jn4 (wr:=[e,it]) (λA hA=>WalksT.enumerateD (D A hA) e ne (by simpa using ne) (by simp)) (by simp) (λi h st b hb=>?_) (λA i s Q E st q=>?_) (λi vs hp=>?_) (λi=>by show 2<=sizeLine;decide)
 ·obtain⟨⟨old,he⟩,⟨o,ho,hc,hd⟩⟩:=st
  rcases Il.mp hb with rfl|hb
  ·exact⟨_,he,λv z=>by cases z⟩
  ·rw[Ai.mp hb]
   exact⟨o,ho,λv z=>by rw[hd]at z;cases z⟩
 ·obtain⟨⟨old,he⟩,_⟩:=st
  exact wpAny_pyIter_enum he q
 ·obtain⟨t',x,⟨c,u,hc,rfl⟩,rfl⟩:=hp
  have e1:z.cps.toList.getD i 0=c:=by
   have:z.cps.toList[i]?=some c:=by simpa using hc
   rw[Ag,this];rfl
  refine .cons ⟨t',rfl⟩ (.cons ⟨u,?_⟩ .nil)
  rw[e1]
theorem pi_enumerate{a:Expr}{ta:TA}{p pos tpos:Pos}{elts:List Expr}{kk:Nat}(hg:Gl X "enumerate")(hm:X.mg "enumerate"=none)(ha:PA X [a] ta)(hs:starEach [a] X.env=[(false,eval a X.env)]:=by rfl) :
  PI X (.Tuple elts kk tpos) (.Call (.Name "enumerate" p) [a] [] pos) (jc5 ta):=by
 intro pins s σ H R I h
 refine Call_ (jhe I hg hm bt_enumerate (U9 (thn (ha pos pins s σ H _ I h) λus s1 ⟨vs,H1,I1,r1,q1⟩=>?_) hs rfl))
 obtain⟨z,e,q⟩:=q1
 subst e
 obtain⟨u,rfl,t,rfl⟩:=jet r1
 refine call_enumerate_str λh' he hi hz hk=>?_
 have I2:Inv X pins σ H1 {s1 with heap:=h'}:=I1.kept (t':=s1.toks) hk
 refine wpAny_pyIter_enum he ⟨s1.heap.objs.size+1,[s1.heap.objs.size+1,s1.heap.objs.size],_,_,H1,rfl,I2,jk3 z t (s1.heap.objs.size+1) s1.heap.objs.size (Nat.succ_ne_self _),⟨⟨.none,he⟩,hi⟩,λb hb=>?_,q⟩
 have hb':s1.heap.objs.size<=b:=by
  rcases Il.mp hb with rfl|hb
  ·omega
  ·rw[Ai.mp hb];exact Al _
 obtain⟨f0,f1,f2,f3,f4,f5⟩:=I1.fpOk (H':=H1) hb' (I1.hok.fresh hb')
 exact⟨f0,f1,f2,f3,f4,f5⟩
def jkd:List V->Hp->VK->Prop:=λxs H Q=>match xs with
 |[.int j]=>-(2^62)<=j/\j<2^62/\∀p,H p=none->Q (.ref p) (upd H p (.rng 0 j))
 |[.int i,.int j]=>-(2^62)<=i/\i<2^62/\-(2^62)<=j/\j<2^62/\∀p,H p=none->Q (.ref p) (upd H p (.rng i j))
 |_=>False
theorem jam:jeb X (.type "range") jkd:=by
 intro pins s σ H xs us Q I r h
 unfold jkd at h
 split at h
 ·rename_i j
  obtain⟨u,rfl,t,rfl⟩:=jet r
  obtain⟨h1,h2,q⟩:=h
  refine call_range_1 ⟨.ref s.heap.objs.size,upd H s.heap.objs.size (.rng 0 j),I.laid (λb o e=>Ad _ e) (Al _) ⟨_,_,_,Ir _ rfl⟩,rfl,q _ (I.hok.fresh (Al _))⟩
 ·rename_i i j
  obtain⟨u,w',rfl,⟨t,rfl⟩,⟨t',rfl⟩⟩:=jiu r
  obtain⟨h1,h2,h3,h4,q⟩:=h
  refine call_range_2 ⟨.ref s.heap.objs.size,upd H s.heap.objs.size (.rng i j),I.laid (λb o e=>Ad _ e) (Al _) ⟨_,_,_,Ir _ rfl⟩,rfl,q _ (I.hok.fresh (Al _))⟩
 ·exact h.elim
end
section
variable{X:Cx}
def jjc:List V->Hp->VK->Prop:=λxs H Q=>match xs with
 |[x]=>∃d,Rep H x d/\d.showable=true/\d.hasDict=false/\d.depth<=60/\d.shown.length<=sizeLine/\Q (.str d.shown) H
 |_=>False
theorem zk(hg:X.A.guards=some [])(hu:X.A.units+64<cLine):jeb X (.builtin "repr") jjc:=by
 intro pins s σ H xs us Q I r h
 unfold jjc at h
 split at h
 ·rename_i x
  obtain⟨d,hr,hs,hd,hp,hz,q⟩:=h
  obtain⟨u,rfl,rx⟩:=jet r
  cases d with
  |none=>simp only[Rep]at hr;subst hr;cases rx;exact PySem.P.repr_of_none ⟨.str _,H,I.tok _,⟨_,rfl⟩,q⟩
  |bool b=>simp only[Rep]at hr;subst hr;cases rx;exact PySem.P.repr_of_bool ⟨.str _,H,I.tok _,⟨_,rfl⟩,q⟩
  |int i=>simp only[Rep]at hr;subst hr;obtain⟨t,rfl⟩:=rx;exact PySem.P.repr_of_int (by simpa[PyData.showable]using hs) ⟨.str _,H,I.tok _,⟨_,rfl⟩,q⟩
  |str x=>simp only[Rep]at hr;subst hr;obtain⟨t,rfl⟩:=rx;exact PySem.P.repr_of_str ⟨.str _,H,I.tok _,⟨_,rfl⟩,q⟩ hz
  |list ds =>
   obtain⟨as,rd⟩:=hr.reads I rx
   simp only[Rep]at hr
   obtain⟨a,vs,rfl,_⟩:=hr
   cases rx
   exact repr_of_reads' rd hs (PyData.noDict_hsm hd) hg (by omega) (λ_ _ e=>e) (λh' u tk hk=>⟨.str _,H,I.kept hk,⟨_,rfl⟩,q⟩) hz
  |tuple ds =>
   obtain⟨as,rd⟩:=hr.reads I rx
   simp only[Rep]at hr
   obtain⟨a,vs,rfl,_⟩:=hr
   cases rx
   exact repr_of_reads' rd hs (PyData.noDict_hsm hd) hg (by omega) (λ_ _ e=>e) (λh' u tk hk=>⟨.str _,H,I.kept hk,⟨_,rfl⟩,q⟩) hz
  |dict _=>simp only[Rep]at hr
 ·exact h.elim
def jly:List V->Hp->VK->Prop:=λxs H Q=>match xs with
 |[.ref p]=>∃lo hi:Int,H p=some (.rng lo hi)/\-(2^62)<=lo/\lo<2^62/\-(2^62)<=hi/\hi<2^62/\(hi-lo).toNat<=sizeLine/\∀l,H l=none->Q (.ref l) (upd H l (.lst ((List.range (hi-lo).toNat).map λi=>V.int (lo+(i:Nat)))))
 |_=>False
theorem jn6{xs:List V}{us:List Value}(hl:xs.length=us.length)(h:∀(i:Nat) (x:V) (u:Value),xs[i]?=some x->us[i]?=some u->RelV x u):Vals xs us:=by
 induction xs generalizing us with
 |nil=>cases us with
  |nil=>exact .nil
  |cons _ _=>simp at hl
 |cons x xs ih=>cases us with
  |nil=>simp at hl
  |cons u us=>exact .cons (h 0 x u rfl rfl) (ih (by simpa using hl) λi a b e1 e2=>h (i+1) a b (by simpa using e1) (by simpa using e2))
theorem jaq(hc:X.calm=true):jeb X (.type "list") jly:=by
 intro pins s σ H xs us Q I r h
 unfold jly at h
 split at h
 ·rename_i p
  obtain⟨lo,hi,e,h1,h2,h3,h4,hz,q⟩:=h
  obtain⟨u,rfl,ru⟩:=jet r
  cases ru
  obtain⟨t,u,v,e'⟩:=(show ObjOk X.prog X.w H s.heap p (.rng lo hi)from I.hok p _ e)
  have hsz:sizeLine=16777216:=sizeLine_eq
  refine call_list_range (n:=(hi-lo).toNat) (I.ok.hd hc) (show IsRange s.heap p lo hi 1 t u v from e') (small_one h1 h2 h3 h4) (by rw[rangeSize_one];split <;> omega) (by omega) λh' tk acc c hk hn hit=>?_
  refine⟨.ref s.heap.objs.size,_,I.laid (o:=.lst ((List.range (hi-lo).toNat).map λi=>V.int (lo+(i:Nat)))) hk (Al _) ⟨?_,acc.toList,c,?_,by simpa using hn⟩,rfl,q _ (I.hok.fresh (Al _))⟩
  ·rw[Aa,Of];exact hz
  ·obtain⟨i1,i2⟩:=hit
   refine jn6 (by simp[i1]) λi x u e1 e2=>?_
   obtain⟨t',ht⟩:=i2 i u (by simpa using e2)
   subst ht
   rw[A9]at e1
   cases q:(List.range (hi-lo).toNat)[i]? with
   |none=>rw[q]at e1;cases e1
   |some j =>
    rw[q]at e1
    have ej:j=i:=by
     have:=Ab.mp q
     obtain⟨_,e⟩:=this
     simpa using e.symm
    subst ej
    have e1':V.int (lo+(j:Nat))=x:=A7 e1
    subst e1'
    exact⟨t',by rw[Int.mul_one]⟩
 ·exact h.elim
def rAddW:R2:=λx y H Q=>match x,y with
 |.int i,.int j=>Q (.int (i+j)) H
 |.str i,.str j=>i.length+j.length<=sizeLine/\Q (.str (i++j)) H
 |.ref l,.ref b=>(∃xs zs,jec (H l)=some xs/\jec (H b)=some zs/\xs.length+zs.length<=sizeLine/\∀p,H p=none->Q (.ref p) (upd H p (.lst (xs++zs)))) \/
   (∃xs zs,jgb (H l)=some xs/\jgb (H b)=some zs/\xs≠[]/\zs≠[]/\xs.length+zs.length<=sizeLine/\∀p,H p=none->Q (.ref p) (upd H p (.tup (xs++zs))))
 |_,_=>False
theorem kh:OpR X (binaryOp .Add) rAddW:=by
 intro pins s σ H x y v u Q I rx ry h
 cases x with
 |int i=>cases y with
  |int j=>exact op_add pins s σ H _ _ v u Q I rx ry ⟨i,j,rfl,rfl,h⟩
  |_=>exact False.elim h
 |str i=>cases y with
  |str j=>exact op_add_str pins s σ H _ _ v u Q I rx ry ⟨i,j,rfl,rfl,h⟩
  |_=>exact False.elim h
 |ref l=>cases y with
  |ref b =>
   rcases h with⟨xs,zs,e1,e2,h⟩|⟨xs,zs,e1,e2,n1,n2,hz,h⟩
   ·exact op_cat pins s σ H _ _ v u Q I rx ry ⟨l,b,xs,zs,rfl,rfl,jeg e1,jeg e2,h⟩
   ·exact jbr pins s σ H _ _ v u Q I rx ry ⟨l,b,xs,zs,rfl,rfl,SqT.of (jgr e1),SqT.of (jgr e2),n1,hz,λz=>absurd z n2,λ_=>h⟩
  |_=>exact False.elim h
 |_=>exact False.elim h
theorem jb2(H:Hp)(Q:VK)(i j:Int):rAddW (.int i) (.int j) H Q=(Q (.int (i+j)) H):=rfl
theorem jb4(H:Hp)(Q:VK)(i j:Str):rAddW (.str i) (.str j) H Q=(i.length+j.length<=sizeLine/\Q (.str (i++j)) H):=rfl
theorem rAddW.lst{H:Hp}{Q:VK}{l b:Addr}{xs zs:List V}(e1:H l=some (.lst xs))(e2:H b=some (.lst zs))(hz:xs.length+zs.length<=sizeLine)
  (h:∀p,H p=none->Q (.ref p) (upd H p (.lst (xs++zs)))):rAddW (.ref l) (.ref b) H Q:=.inl ⟨xs,zs,by rw[e1];rfl,by rw[e2];rfl,hz,h⟩
end
section
variable{X:Cx}{pos:Pos}{k v:Expr}{tk tv:TE}
def jc7(tk tv:TE):TE:=λσ H Q=>∀p,H p=none->tk σ (upd H p (.dT [])) λx H1=>tv σ H1 λy H2=>∃kvs ks b,H2 p=some (.dT kvs)/\x=.ref b/\H2 b=some (.tup (ks.map kV))/\kvs.length<sizeLine/\Q (.ref p) (upd H2 p (.dT (putK kvs ks y)))
theorem pe_disp1(hu:X.A.units+1<cLine)(hk:PE X k tk)(hv:PE X v tv):PE X (.Dict [some k] [v] pos) (jc7 tk tv):=by
 intro pins s σ H Q I q
 have hn:=I.hok.fresh (Al s.heap.objs.size)
 have I1:=I.laid (a:=s.heap.objs.size) (o:=.dT []) (h':=s.heap.push {cls:=.type "dict",data:=.dict #[]}) (t':=s.toks) (λ_ _ q=>Ad _ q) (Al _) (jmk s.heap I.big)
 rw[arm_eval_Dict,zip_pairTrees [some k] [v] X.env pos rfl rfl,dictDisplay_pairs (pairTrees [some k] [v] X.env pos) (by simp[pairTrees]) (by simp[pairTrees])]
 refine Ac (Uq (Ac ?_))
 unfold subDict
 refine Ac (wpAny_alloc (Ac (O9 ?_)))
 rw[Am (by simp[pairTrees])]
 have hp:PPs X pos [some k] [v] [(tk,tv)]:=pps_cons hk hv pps_nil
 refine Ac (thn (hp pins _ σ _ (λps H2=>match ps with
  |[(x,y)]=>∃kvs ks b,H2 s.heap.objs.size=some (.dT kvs)/\x=.ref b/\H2 b=some (.tup (ks.map kV))/\kvs.length<sizeLine/\Q (.ref s.heap.objs.size) (upd H2 s.heap.objs.size (.dT (putK kvs ks y)))
  |_=>False) I1 (q _ hn)) λws s2 ⟨ps,H2,I2,rel,q2⟩=>?_)
 split at q2
 ·rename_i x y
  obtain⟨kvs,ks,b,e,rfl,eb,l,q2⟩:=q2
  cases rel with
  |@cons pa pb as bs h t =>
   cases t
   obtain⟨u,r⟩:=pb
   obtain⟨ru,rr⟩:=h
   have eu:u=Value.ref b:=ru
   subst eu
   refine O9 ?_
   simp only[List.forIn_cons,List.forIn_nil]
   obtain⟨z,hd,xs,rl,dd⟩:=jm5 I2.hok e
   have hz:xs.length<=sizeLine:=by rw[<-Ou rl];exact z
   have hl:(putK kvs ks y).length<=sizeLine:=by have:=jev kvs ks y;omega
   refine Ac (Ac (Ac (wpAny_dictSet_heap (hsz:=hz) (knd:=tupleKind (jd0 X.prog X.w)) (show X.A.units<cLine by omega) (jfk I2.hok eb) dd λh' dd' hs=>?_)))
   refine A5 (A5 (A5 (A5 (A5 ?_))))
   obtain⟨qo,es,ep,hq,h2,h3,h4,_,h5⟩:=dd'
   refine⟨.ref s.heap.objs.size,_,?_,rfl,q2⟩
   refine jht I2 (by rw[e];exact True.intro) hs ⟨qo,hq⟩ ⟨hl,hd,_,(rl.put ks eb rr).keeps λc ys ec=>?_,qo,es,ep,hq,h2,h3,h4,h5⟩
   rw[jd (jkx ec e (λz=>nomatch z))]
   exact ec
 ·exact q2.elim
end
section
variable{X:Cx}
def rSlU(K:PySem.W.Frag):V->Option Int->Option Int->Hp->VK->Prop:=λx lo hi H Q=>match x with
 |.str z=>z.length<=sizeLine/\Q (.str (cutS z lo hi)) H
 |.ref a=>(∃xs,SqL K H a xs/\∀p,H p=none->Q (.ref p) (upd H p (.lst (cutV xs lo hi)))) \/
   ∃xs,SqT K H a xs/\¬(HT.sIx xs.length 0 lo=0/\HT.sIx xs.length xs.length hi=xs.length)/\∀p,H p=none->Q (.ref p) (upd H p (.tup (cutV xs lo hi)))
 |_=>False
theorem sl_U:SlR X (rSlU X.K):=by
 intro pins s σ H x v vl vu lo hi sl Q I rx hs pl pu h
 unfold rSlU at h
 split at h
 ·rename_i z
  exact sl_str pins s σ H (.str z) v vl vu lo hi sl Q I rx hs pl pu ⟨z,rfl,h⟩
 ·rename_i a
  rcases h with⟨xs,hx,q⟩|⟨xs,hx,nw,q⟩
  ·exact sl_list pins s σ H (.ref a) v vl vu lo hi sl Q I rx hs pl pu ⟨a,xs,rfl,hx,q⟩
  ·exact sl_tup pins s σ H (.ref a) v vl vu lo hi sl Q I rx hs pl pu ⟨a,xs,rfl,hx,nw,q⟩
 ·exact h.elim
theorem jcs(K:PySem.W.Frag)(H:Hp)(Q:VK)(z:Str)(lo hi:Option Int):rSlU K (.str z) lo hi H Q=(z.length<=sizeLine/\Q (.str (cutS z lo hi)) H):=rfl
theorem rSlU.sq{K:PySem.W.Frag}{H:Hp}{Q:VK}{a:Addr}{xs:List V}{lo hi:Option Int}(e:SqL K H a xs)(h:∀p,H p=none->Q (.ref p) (upd H p (.lst (cutV xs lo hi)))):rSlU K (.ref a) lo hi H Q:=.inl ⟨xs,e,h⟩
theorem rSlU.tup{K:PySem.W.Frag}{H:Hp}{Q:VK}{a:Addr}{xs:List V}{lo hi:Option Int}(e:H a=some (.tup xs))(nw:¬(HT.sIx xs.length 0 lo=0/\HT.sIx xs.length xs.length hi=xs.length))(h:∀p,H p=none->Q (.ref p) (upd H p (.tup (cutV xs lo hi)))):rSlU K (.ref a) lo hi H Q:=.inr ⟨xs,SqT.of e,nw,h⟩
end
theorem jk6{H:Hp}{D:Addr}{a b:HO}:upd (upd H D a) D b=upd H D b:=jct
section
variable{D:Addr}{te:TE}{E:Ends}{r:L2.St}{H:Hp}
theorem jld{K:PySem.W.Frag}{a:Addr}{xs:List V}(f:V->V)(ha:H a=some (.lst xs))(hD:H D=none)(hz:xs.length<=sizeLine)(he:∀x∈xs,∀l Q,Q (f x) (upd H D (.lst l))->te (some x::r) (upd H D (.lst l)) Q)
  (hn:∀v,E.nx (v::r) (upd H D (.lst (xs.map f)))):jep (Itl K a) (jc4 0) (je4 D te) E (none::r) (upd H D (.lst [])):=by
 have ne:a≠D:=jf ha hD
 refine jfz (xs:=xs) (λi σ H'=>∃v:Option V,σ=v::r/\H'=upd H D (.lst ((xs.take i).map f))) ⟨none,rfl,rfl⟩ ?_ ?_ ?_
 ·rintro i σ H' _ ⟨v,_,rfl⟩
  rw[jd ne];exact ha
 ·rintro i x σ H' hx ⟨v,rfl,rfl⟩
  have hl:i<xs.length:=(Ab.mp hx).1
  refine he x (Ay hx) _ _ ⟨_,by rw[jb];rfl,by simp;omega,some x,rfl,?_⟩
  rw[jk6,List.take_succ,hx]
  simp
 ·rintro σ H' ⟨v,rfl,rfl⟩
  rw[Iy (Al _)]
  exact hn v
theorem jmj{K:PySem.W.Frag}{a:Addr}{xs:List V}(f:V->V)(ha:H a=some (.tup xs))(hD:H D=none)(hz:xs.length<=sizeLine)(he:∀x∈xs,∀l Q,Q (f x) (upd H D (.lst l))->te (some x::r) (upd H D (.lst l)) Q)
  (hn:∀v,E.nx (v::r) (upd H D (.lst (xs.map f)))):jep (Itt K a) (jc4 0) (je4 D te) E (none::r) (upd H D (.lst [])):=by
 have ne:a≠D:=jf ha hD
 refine jgm (xs:=xs) (λi σ H'=>∃v:Option V,σ=v::r/\H'=upd H D (.lst ((xs.take i).map f))) ⟨none,rfl,rfl⟩ ?_ ?_ ?_
 ·rintro i σ H' _ ⟨v,_,rfl⟩
  rw[jd ne];exact ha
 ·rintro i x σ H' hx ⟨v,rfl,rfl⟩
  have hl:i<xs.length:=(Ab.mp hx).1
  refine he x (Ay hx) _ _ ⟨_,by rw[jb];rfl,by simp;omega,some x,rfl,?_⟩
  rw[jk6,List.take_succ,hx]
  simp
 ·rintro σ H' ⟨v,rfl,rfl⟩
  rw[Iy (Al _)]
  exact hn v
end
end L2
set_option autoImplicit true
set_option relaxedAutoImplicit true
namespace L2
open PySem PySem.Spec PyProof.Rows
structure QE(X:Cx)(e:Expr)(t:TE):Prop where
 h:PE X e t
structure QT(X:Cx)(e:Expr)(t:TT):Prop where
 h:PT X e t
structure QW(X:Cx)(e:Expr)(t:TT):Prop where
 h:PW X e t
structure QA(X:Cx)(es:List Expr)(t:TA):Prop where
 h:PA X es t
structure QS(X:Cx)(st:Stmt)(t:TS):Prop where
 h:PS X st t
structure QSs(X:Cx)(st:List Stmt)(t:TS):Prop where
 h:PSs X st t
structure QG(X:Cx)(e:Expr)(t:TG):Prop where
 h:PG X e t
structure QGs(X:Cx)(es:List Expr)(t:TGs):Prop where
 h:PGs X es t
structure QI(X:Cx)(tg iter:Expr)(wi:TI):Prop where
 h:PI X tg iter wi
structure QO(X:Cx)(e:Option Expr)(t:TO):Prop where
 h:PO X e t
structure QC(X:Cx)(op:CmpOp)(a b:Expr)(t:TE):Prop where
 h:PC X op a b t
theorem j8:QSs X [] jdi:=⟨pss_nil⟩
theorem jj(h1:QS X stm t):QSs X [stm] t:=⟨pss_one h1.h⟩
theorem jg(h1:QS X stm t)(h2:QSs X rst u):QSs X (stm::rst) (tSeq t u):=⟨pss_cons h1.h h2.h⟩
theorem qpv(i:Nat){x:Str}{pos:Pos}(hN:X.N[i]?=some x:=by rfl)(hv:Vis X.env.scope x:=by first|exact Or.inl rfl|exact Or.inr (Or.inl rfl)|exact Or.inr (Or.inr rfl))
  (hd:(x == ("__debug__":Str))=false:=by decide) (hcd:(x == ("__classdict__":Str))=false:=by decide):QE X (.Name x pos) (tVar i):=⟨pv i hN hv hd hcd⟩
theorem je:QE X (.Constant (.int i) j pos) (tC (.int i)):=⟨pe_int⟩
theorem jbl:QE X (.Constant (.bool b) j pos) (tC (.bl b)):=⟨pe_bl⟩
theorem jba:QE X (.Constant .none j pos) (tC .non):=⟨pe_non⟩
theorem yk:QE X (.Constant (.str x) j pos) (tC (.str x)):=⟨pe_str⟩
theorem jai{x:Str}{v:V}{u:Value}{pos:Pos}(hg:Gl X x)(hm:X.mg x=some u)(r:RelV v u)(hd:(x == ("__debug__":Str))=false:=by decide):QE X (.Name x pos) (tC v):=⟨pe_glob hg hm r hd⟩
theorem jo(ho:OpR X (binaryOp op) r)(ha:QE X a ta)(hb:QE X b tb):QE X (.BinOp a op b pos) (tOp r ta tb):=⟨pe_op ho ha.h hb.h⟩
theorem jbt(ha:QE X a ta):QE X (.UnaryOp .Not a pos) (jdj ta):=⟨pe_not ha.h⟩
theorem zz(ho:OpR X (compareOp op) r)(ha:QE X a ta)(hb:QE X b tb)(hm:behindInMarks op b=false):QE X (.Compare a [op] [b] pos) (tOp r ta tb):=⟨pe_cmpR ho ha.h hb.h hm⟩
theorem jr(ho:OpR X (compareOp op) r)(ha:QE X a ta)(hb:QE X b tb)(hm:behindInMarks op b=false):QT X (.Compare a [op] [b] pos) (jdl (tOp r ta tb)):=⟨pt_cmpR ho ha.h hb.h hm⟩
theorem jbu(h:QC X op a b t)(h1:behindInMarks op b=false:=by first|exact nobehind _ (by decide) (by decide)|rfl):QT X (.Compare a [op] [b] pos) (tB t):=⟨pt_cmp h.h h1⟩
theorem ja6(hu:X.A.units+1<cLine)(hi:QE X i ty)(ho:QE X o td):QC X .NotIn i o (jcv ty td):=⟨pc_dnotin hu hi.h ho.h⟩
theorem jbb(ha:QT X a tA):QT X (.UnaryOp .Not a pos) (tNot tA):=⟨pt_not ha.h⟩
theorem QW.pt(h:QW X e t):QT X e t:=⟨PW.pt h.h⟩
theorem qpw_and(ha:QT X a tA)(hb:QW X (.BoolOp .And (b::rst) pos) tB'):QW X (.BoolOp .And (a::b::rst) pos) (tAnd tA tB'):=⟨pw_and ha.h hb.h⟩
theorem jbo(ha:QT X a tA)(hb:QW X (.BoolOp .Or (b::rst) pos) tB'):QW X (.BoolOp .Or (a::b::rst) pos) (tOr tA tB'):=⟨pw_or ha.h hb.h⟩
theorem qpw_and1(ha:QT X a tA):QW X (.BoolOp .And [a] pos) tA:=⟨pw_and1 ha.h⟩
theorem jbd(ha:QT X a tA):QW X (.BoolOp .Or [a] pos) tA:=⟨pw_or1 ha.h⟩
theorem jbc{e:Expr}(h:QE X e t)(he:∀whole,isTrue e X.env whole=(do let v <-whole;standAt e.pos;holding [v] (truthy v)):=by intro _;rfl):QT X e (tB t):=⟨pt_val h.h he⟩
theorem qpe_one(h:QE X a t):QE X (.BoolOp op [a] pos) t:=⟨pe_one h.h⟩
theorem qpe_and(ha:QE X a ta)(hb:QE X (.BoolOp .And (b::rst) pos) tb):QE X (.BoolOp .And (a::b::rst) pos) (jda ta tb):=⟨pe_and ha.h hb.h⟩
theorem ya(h:QA X es t):QE X (.List es pos) (tLst t):=⟨pe_lst h.h⟩
theorem j9(h:QA X es t):QE X (.Tuple es x1 pos) (tTup t):=⟨pe_tup h.h⟩
theorem zo(hr:SlR X r)(he:QE X e te)(hl:QO X lw tl)(hu:QO X hi th):QE X (.Subscript e (.Slice lw hi none p2) pos) (tSl r te tl th):=⟨pe_slice hr he.h hl.h hu.h⟩
theorem z6:QO X none jcw:=⟨po_none⟩
theorem z7(h:QE X e te):QO X (some e) (jdk te):=⟨po_some h.h⟩
theorem ji(hr:IxR X r)(ha:QE X a ta)(hb:QE X b tb)(hs:jjz b):QE X (.Subscript a b pos) (tOp r ta tb):=⟨pe_ix hr ha.h hb.h hs⟩
theorem jbg(hu:X.A.units+1<cLine)(hk:QE X k tk)(hv:QE X v tv):QE X (.Dict [some k] [v] pos) (jc7 tk tv):=⟨pe_disp1 hu hk.h hv.h⟩
theorem jah(hc:X.calm=true)(c:CompOk X scope Nc js)(hi:QI X tg iter wi)(hg:∀C s3 H3 fp,QG (X.comp scope C Nc s3 H3 fp) tg g)(he:∀C s3 H3 fp,QE (X.comp scope C Nc s3 H3 fp) elt te)
  (hs:∀x,foldedSetIterable iter X.env x=pure x:=by intro _;rfl):QE X (.ListComp elt [⟨tg,iter,[],0⟩] scope pos) (jc9 wi g js te):=⟨pe_comp hc c hi.h (λC s H f=>(hg C s H f).h) (λC s H f=>(he C s H f).h) hs⟩
theorem jbn{i:Nat}{y:Str}{py spos:Pos}(hN:X.N.Nodup)(hiN:X.N[i]?=some y)(hy:Loc X.env.scope y)(hc:X.calm=true)(c:CompOk X scope Nc js)(hi:QI X tg iter wi)(hg:∀C s3 H3 fp,QG (X.comp scope C Nc s3 H3 fp) tg g)
  (he:∀C s3 H3 fp,QE (X.comp scope C Nc s3 H3 fp) elt te) (hsw:swapsWith (.ListComp elt [⟨tg,iter,[],0⟩] scope pos) (some (.Name y py)) spos.line X.env=pure true:=by rfl)
  (hs:∀x,foldedSetIterable iter X.env x=pure x:=by intro _;rfl) (hf:X.fn y=true\/X.env.scope.names.lookup y=some .local:=by first|exact .inl rfl|exact .inr rfl|assumption) :
  QS X (.Assign [.Name y py] (.ListComp elt [⟨tg,iter,[],0⟩] scope pos) spos) (tAsg (jc9 wi g js te) (jc4 i)):=⟨ps_setc hN hiN hy hc c hi.h (λC s H f=>(hg C s H f).h) (λC s H f=>(he C s H f).h) hsw hs hf⟩
theorem jm(F:FnOk X.prog X.w X.K X.mg X.base CX k f fd ps sp)(hr:Room k X.A)(hg:Gl X x)(hm:X.mg x=some (.ref f))(hk:PySem.W.keepIn X.K (.ref f)=true)(hb:Binds X.K fd ps ds)(hd:Vals dvs ds)(hx:jfv CX X E)
  (ha:QA X (e::es) t) (hdb:(x == ("__debug__":Str))=false:=by decide) (he:starEach (e::es) X.env=(false,eval e X.env)::starEach es X.env:=by rfl) (hpl:(backTo pos (starEach es X.env)).any (·.1)=false:=by rfl) :
  QE X (.Call (.Name x p) (e::es) [] pos) (jdd sp dvs E t):=⟨pe_call F hr hg hm hk hb hd hx ha.h hdb he hpl⟩
theorem ju(hc:jeb X (.type T) r)(hg:Gl X x)(hm:X.mg x=none)(hv:bootBuiltins x=some (.type T))(ha:QA X (e::es) t)(hn:x≠"__name__":=by decide)(hdb:(x == ("__debug__":Str))=false:=by decide)
  (he:starEach (e::es) X.env=(false,eval e X.env)::starEach es X.env:=by rfl) (hpl:(backTo pos (starEach es X.env)).any (·.1)=false:=by rfl):QE X (.Call (.Name x p) (e::es) [] pos) (tCB r t):=⟨pe_callTy hc hg hm hv ha.h hn hdb he hpl⟩
theorem jn(hc:jeb X (.builtin idn) r)(hg:Gl X x)(hm:X.mg x=none)(hv:bootBuiltins x=some (.builtin idn))(ha:QA X (e::es) t)(hn:x≠"__name__":=by decide)(hdb:(x == ("__debug__":Str))=false:=by decide)
  (he:starEach (e::es) X.env=(false,eval e X.env)::starEach es X.env:=by rfl) (hpl:(backTo pos (starEach es X.env)).any (·.1)=false:=by rfl):QE X (.Call (.Name x p) (e::es) [] pos) (tCB r t):=⟨pe_callB hc hg hm hv ha.h hn hdb he hpl⟩
theorem yv(slot:Slot "list" name idn)(hty:typeOf (.builtin idn)=pure (.type "method_descriptor"))(hm:MtM X idn r)(ho:QE X o to)(ha:QA X (e::es) t)(mono:∀σ H Q Q',(∀v H',Q v H'->Q' v H')->to σ H Q->to σ H Q')
  (hbase:attributeBase o name X.env (eval o X.env)=eval o X.env:=by rfl)
  (hfew:((backTo cpos (starEach (e::es) X.env)).all (λx=>!x.1) && (backToKw cpos (keywordEach [] X.env)).all (λx=>x.1.isSome)
   && decide ((e::es).length+([]:List Keyword).length+(if([]:List Keyword).isEmpty then 0 else 1)<30))=true:=by rfl)
  (hline:(apos.endLine == cpos.line)=true:=by rfl) (hs:starEach (e::es) X.env=(false,eval e X.env)::starEach es X.env:=by rfl) (hplain:(backTo cpos (starEach es X.env)).any (·.1)=false:=by rfl) :
  QE X (.Call (.Attribute o name apos) (e::es) [] cpos) (tBML r to t):=⟨pe_bmL slot hty hm ho.h ha.h mono hbase hfew hline hs hplain⟩
theorem jc:QA X [] tNil:=⟨pa_nil⟩
theorem ja(ha:QE X e te)(hr:QA X es t)(hs:starEach (e::es) X.env=(false,eval e X.env)::starEach es X.env:=by rfl):QA X (e::es) (jde te t):=⟨pa_cons ha.h hr.h hs⟩
theorem jv{i:Nat}{x:Str}(hN:X.N.Nodup)(hi:X.N[i]?=some x)(hx:Loc X.env.scope x)(hf:X.fn x=true\/X.env.scope.names.lookup x=some .local:=by first|exact .inl rfl|exact .inr rfl|assumption):QG X (.Name x pos) (jc4 i):=⟨pg_name hN hi hx hf⟩
theorem jaf{es:List Expr}{t:TGs}{n:Nat}{K:PySem.W.Frag}(hc:X.calm=true)(h:QGs X es t)(hK:X.K=K)(hn:(assignEach es X.env).length=n:=by rfl)(hst:(assignEach es X.env).findIdx? (·.1)=none:=by rfl) :
  QG X (.Tuple es k pos) (gTup K n t):=by subst hK;exact⟨pg_tup hc h.h hn hst⟩
theorem z0:QGs X [] gNil:=⟨pgs_nil⟩
theorem ku{e:Expr}{es:List Expr}(h1:QG X e t)(h2:QGs X es u)(hs:(assignEach (e::es) X.env).map (·.2)=assign e X.env::(assignEach es X.env).map (·.2):=by rfl):QGs X (e::es) (jm6 t u):=⟨pgs_cons h1.h h2.h hs⟩
theorem jap{o i:Expr}(ho:QE X o to)(hi:QE X i ti)(hs:PSet X t)
  (ha:∀v,assign (.Subscript o i pos) X.env v=(do
   let ov <-holding [v] (eval o X.env)
   let iv <-holding [v,ov] (eval i X.env)
   standAt pos
   holding [v,ov,iv] (setItem ov iv v)
   release [v,ov,iv] []):=by intro _;rfl):QG X (.Subscript o i pos) (gSub to ti t):=⟨pg_sub ho.h hi.h hs ha⟩
theorem jk{i:Nat}{x:Str}{e:Expr}{te:TE}{pos':Pos}(hN:X.N.Nodup)(hi:X.N[i]?=some x)(hx:Loc X.env.scope x)(he:QE X e te)(hs:swapsWith e (some (.Name x pos')) pos.line X.env=pure false:=by rfl)
  (hf:X.fn x=true\/X.env.scope.names.lookup x=some .local:=by first|exact .inl rfl|exact .inr rfl|assumption):QS X (.Assign [.Name x pos'] e pos) (tAsg te (jc4 i)):=⟨ps_set hN hi hx he.h hs hf⟩
theorem zq{tg e:Expr}(he:QE X e te)(hg:QG X tg g)(hs:swapsWithSole [tg] e pos.line X.env=pure false:=by rfl)(hw:swappedStores [tg] e X.env=pure none:=by rfl)
  (h1:(assignEach [tg] X.env).map (·.2)=[assign tg X.env]:=by rfl):QS X (.Assign [tg] e pos) (tAsg te g):=⟨ps_asg he.h hg.h hs hw h1⟩
theorem qps_aug{i:Nat}{x:Str}{e:Expr}{te:TE}{op:Operator}{ti:TIp}{pos':Pos}(hN:X.N.Nodup)(hi:X.N[i]?=some x)(hx:Loc X.env.scope x)(he:QE X e te)(ho:PIp X op ti)
  (hf:X.fn x=true\/X.env.scope.names.lookup x=some .local:=by first|exact .inl rfl|exact .inr rfl|assumption):QS X (.AugAssign (.Name x pos') op e pos) (tAug i te ti):=⟨ps_aug hN hi hx he.h ho hf⟩
theorem jbm(hu:X.A.units+1<cLine)(ho:QE X o td)(hi:QE X i ty)(hv:QE X value tv)(hs:swapsWith value (some (.Subscript o i pos')) pos.line X.env=pure false) :
  QS X (.Assign [.Subscript o i pos'] value pos) (jdc td ty tv):=⟨ps_dput hu ho.h hi.h hv.h hs⟩
theorem jx(he:QE X e te):QS X (.Return (some e) pos) (tRet te):=⟨ps_ret he.h⟩
theorem yi(he:QE X e te)(hs:swapsWith e none pos.line X.env=pure false:=by rfl):QS X (.Expr e pos) (jdg te):=⟨ps_expr he.h hs⟩
theorem ki(hc:QT X c tc)(ha:QSs X a t)(hb:QSs X b u):QS X (.If c a b pos) (tIfS tc t u):=⟨ps_if hc.h ha.h hb.h⟩
theorem zb{iter:Expr}(hp:PassesOwn (model X.prog X.w) X.A X.env X.xe)(hc:X.calm=true)(hi:QI X tg iter wi)(hg:QG X tg g)(hb:QSs X body tb)(hs:∀x,foldedSetIterable iter X.env x=pure x:=by intro _;rfl) :
  QS X (.For tg iter body [] pos) (tFor wi g tb):=⟨ps_for hp hc hi.h hg.h hb.h hs⟩
theorem jal(hp:PassesOwn (model X.prog X.w) X.A X.env X.xe)(hc:QT X c tc)(hb:QSs X body tb):QS X (.While c body [] pos) (jhp tc tb):=⟨ps_while hp hc.h hb.h⟩
theorem qps_continue:QS X (.Continue pos) jdf:=⟨ps_continue⟩
theorem yq{a:Expr}{ta:TA}{p pos:Pos}(hg:Gl X "range")(hm:X.mg "range"=none)(ha:QA X [a] ta)(hs:starEach [a] X.env=[(false,eval a X.env)]:=by rfl):QI X tg (.Call (.Name "range" p) [a] [] pos) (jdb ta):=⟨pi_range1 hg hm ha.h hs⟩
theorem jau{a:Expr}{ta:TA}{p pos tpos:Pos}(hg:Gl X "enumerate")(hm:X.mg "enumerate"=none)(ha:QA X [a] ta)(hs:starEach [a] X.env=[(false,eval a X.env)]:=by rfl) :
  QI X (.Tuple elts kk tpos) (.Call (.Name "enumerate" p) [a] [] pos) (jc5 ta):=⟨pi_enumerate hg hm ha.h hs⟩
theorem z5{K:PySem.W.Frag}(hl:QE X l tl)(hK:X.K=K):QI X tg l (iAny K tl):=by subst hK;exact⟨pi_any hl.h⟩
def jhy(D:Addr)(tt:TT)(te:TE):TS:=λE σ H=>tt σ H λb H1=>if b=true then je4 D te E σ H1 else E.nx σ H1
def jcu(wi:TI)(g:TG)(js:List (Option Nat))(tt:TT)(te:TE):TE:=λσ H Q=>wi σ H λJ H1=>∀D,H1 D=none ->
 jep J g (jhy D tt te) {nx:=λ_ H'=>Q (.ref D) H',rt:=λ_ _=>False} (jcx js σ) (upd H1 D (.lst []))
theorem ji2(elt target iter cd:Expr)(scope:Scope)(pos:Pos)(it acc:Value)(env:Env) :
  compTurn (.ListComp elt [⟨target,iter,[cd],0⟩] scope pos) 0 it acc env=(standAt iter.pos >>= λ_=>pyNext it >>= λr=>match r with
   |none=>pure (.done .next)
   |some v=>letOwnedTupleGo target it v >>= λ_=>assign target env v >>= λ_ =>
    (forIn [cd] true λc ok=>if ok=true then(isTrue c env (eval c env) >>= λb=>pure (ForInStep.yield b))else pure (ForInStep.yield ok)) >>= λok =>
    if ok=true then((eval elt env >>= λx=>call (.builtin "list.append") [acc,x] >>= λ_=>pure ()) >>= λ_=>again (.compLoop (.ListComp elt [⟨target,iter,[cd],0⟩] scope pos) 0 it acc env))
    else again (.compLoop (.ListComp elt [⟨target,iter,[cd],0⟩] scope pos) 0 it acc env)):=by rfl
section
variable{X:Cx}{scope:Scope}{Nc:List Str}{js:List (Option Nat)}{elt tg iter cd:Expr}{pos:Pos}{wi:TI}{g:TG}{te:TE}{tt:TT}
theorem jjq(hc:X.calm=true)(c:CompOk X scope Nc js)(hi:PI X tg iter wi)(hg:∀C s3 H3 fp,PG (X.comp scope C Nc s3 H3 fp) tg g)(ht:∀C s3 H3 fp,PT (X.comp scope C Nc s3 H3 fp) cd tt)(he:∀C s3 H3 fp,PE (X.comp scope C Nc s3 H3 fp) elt te)
  {pins:List (Addr×Obj)}{s:Shared}{σ:L2.St}{H:Hp} (I:Inv X pins σ H s) {RR:Value->Addr->Result->Shared->Prop}{NX:Addr->Hp->Prop}
  (h:wi σ H λJ H1=>∀D,H1 D=none->jep J g (jhy D tt te) {nx:=λ_ H'=>NX D H',rt:=λ_ _=>False} (jcx js σ) (upd H1 D (.lst [])))
  (fin:∀D H3 s3 fp σ5 H5 s6,Inv X pins σ H3 s3->(∀b∈fp,FpOk X pins H3 b)->Inv (X.comp scope s3.heap.objs.size Nc s3 H3 fp) [] σ5 H5 s6->NX D H5->RR (.ref D) s3.heap.objs.size (.ok .next) s6) :
  wpAny (model X.prog X.w) X.A (eval iter X.env) (λx s₁=>wpAny (model X.prog X.w) X.A (pyIter x) (λit s₂=>wpAny (model X.prog X.w) X.A (newList []) (λacc s₃ =>
   wpAny (model X.prog X.w) X.A (newFunctionEnv scope X.env.globals (clOf X.env scope.names []) [] X.env.qual none .none (some X.env)) (λcenv s₄ =>
    codeAny (model X.prog X.w) X.A (.compStart (.ListComp elt [⟨tg,iter,[cd],0⟩] scope pos) 0 it acc {cenv with scope:=relabel scope X.env}) (RR acc cenv.locals) s₄) X.xe s₃) X.xe s₂) X.xe s₁) X.xe s:=by
 refine thn (hi pins s σ H _ I h) λv s1 h1=>thn h1 λitv s2 h2=>?_
 obtain⟨it,fp,tn,J,H2,rfl,I2,T,st2,f2,h2⟩:=h2
 refine Uj ?_ (by show 0<=sizeLine;decide)
 have hD:H2 s2.heap.objs.size=none:=I2.hok.fresh (Al _)
 have I3:Inv X pins σ (upd H2 s2.heap.objs.size (.lst [])) {s2 with heap:=s2.heap.push {cls:=.type "list",data:=.seq ([]:List Value).toArray}} :=
  I2.laid (t':=s2.toks) (λb u e=>Ad _ e) (Al _) ⟨by show 0<=sizeLine;decide,[],0,.nil,Ir _ rfl⟩
 have f3:∀b∈fp,FpOk X pins (upd H2 s2.heap.objs.size (.lst [])) b:=λb hb=>by
  obtain⟨q0,q⟩:=f2 b hb
  obtain⟨o,e,_⟩:=T.obj _ _ st2 b hb
  exact⟨by rw[jd (Ip (A6 e))];exact q0,q⟩
 have o3:∀b∈fp,∃o,(s2.heap.push {cls:=.type "list",data:=.seq ([]:List Value).toArray}).get? b=some o:=λb hb=>by
  obtain⟨o,e,_⟩:=T.obj _ _ st2 b hb
  exact⟨o,Ad _ e⟩
 have st3:tn 0 (s2.heap.push {cls:=.type "list",data:=.seq ([]:List Value).toArray}):=T.keep _ _ _ st2 λb _ o e=>Ad _ e
 generalize hh3:s2.heap.push {cls:=.type "list",data:=.seq ([]:List Value).toArray}=h3 at I3 o3 st3⊢
 refine Yc c.nocell (by intro y hy;simp at hy) (λh4 hn4 hs4=>?_) c.kind
 have k4:∀b o,h3.get? b=some o->h4.get? b=some o:=λb o e=>(hs4.2 b (Ip (A6 e))).trans (Ad _ e)
 have I4:=ji3 (tk:=s2.toks+([]:List (Str×Value)).length) c I3 f3 o3 hn4 k4
 have st4:tn 0 h4:=T.keep _ _ _ st3 λb _ o e=>k4 b o e
 obtain⟨W,⟨m0,w0⟩,turn⟩:=h2 _ hD
 let s3:Shared:={s2 with heap:=h3}
 let Y:Cx:=X.comp scope h3.objs.size Nc s3 (upd H2 s2.heap.objs.size (.lst [])) fp
 have stat:∀{H':Hp},(∀b∈fp,H' b=none)->∀b∈fp,FpOk Y [] H' b:=λhn b hb=>⟨hn b hb,(I4.ok.exf b hb).1,I4.ok.exfs b hb,.inl hb,(I4.ok.exf b hb).2,(λp hp=>nomatch hp)⟩
 have loop:codeAny (model X.prog X.w) X.A (.compLoop (.ListComp elt [⟨tg,iter,[cd],0⟩] scope pos) 0 (.ref it) (.ref s2.heap.objs.size) Y.env)
   (RR (.ref s2.heap.objs.size) h3.objs.size) {s2 with heap:=h4,toks:=s2.toks+([]:List (Str×Value)).length}:=by
  refine codeAny_loop rfl (λn s'=>∃i σ' H',Inv Y [] σ' H' s'/\tn i s'.heap/\(∀b∈fp,H' b=none)/\W i n σ' H') (λn s5 hI=>?_) m0 ⟨0,_,_,I4,st4,λb hb=>(f3 b hb).1,w0⟩
  obtain⟨i,σ5,H5,I5,st5,fr5,w5⟩:=hI
  show wpAny _ X.A ((compTurn (.ListComp elt [⟨tg,iter,[cd],0⟩] scope pos) 0 (.ref it) (.ref s2.heap.objs.size) Y.env).onRaise (λx=>do noteFrame x Y.env;theTreesLotGoes x)) _ _ s5
  refine wpAny_noted (Ol (E:=λ_ _=>False) ?_ (λ_ _ q=>q) λ_ _ z=>z.elim)
  rw[ji2]
  refine Ac (Uq (Ac ?_))
  rcases turn i n σ5 H5 w5 with⟨stop,qn⟩|⟨go,N,hN,step⟩
  ·refine thn (T.done Y rfl rfl rfl hc i [] s5 σ5 H5 _ I5 (stat fr5) st5 stop) λr s6 ⟨hr,I6⟩=>?_
   subst hr
   refine A5 ?_
   exact fin _ _ s3 fp σ5 H5 s6 I3 f3 I6 qn
  ·refine thn (T.item Y rfl rfl rfl hc i [] s5 σ5 H5 _ I5 (stat fr5) st5 go) λr s6 ⟨u,hr,h6⟩=>?_
   subst hr
   refine Ac (thn h6 λ_ s7 ⟨x,H7,I7,r7,y7,st7,fr7⟩=>?_)
   have I7':=I7.pinned (stat fr7) (T.obj _ _ st7)
   refine Ac (thn (hg _ _ _ _ _ s7 σ5 H7 x u _ I7' r7 (step x H7 y7)) λ_ s8 ⟨σ8,H8,I8,q8⟩=>?_)
   have fin2:∀{H':Hp}{s':Shared},Inv Y ([]++jf1 fp s7.heap) σ8 H' s'->N σ8 H'->∃m,m<n/\∃i σ1 H1,Inv Y [] σ1 H1 s'/\tn i s'.heap/\(∀b∈fp,H1 b=none)/\W i m σ1 H1:=fun{H'}{s'} I10 n10=>by
    obtain⟨m',hm,w10⟩:=hN σ8 H' n10
    refine⟨m',hm,i+1,σ8,H',I10.unpinned,T.keep _ _ _ st7 λb hb o e=>(I10.pin (b,o) (A2 _ (A2 _ (jer hb e)))).1,λb hb=>?_,w10⟩
    obtain⟨o,e,d⟩:=T.obj _ _ st7 b hb
    exact(I10.pin (b,o) (A2 _ (A2 _ (jer hb e)))).2.1
   rw[List.forIn_cons,Am rfl]
   refine Ac (Ac (Ac (thn (ht _ _ _ _ _ s8 σ8 H8 _ I8 q8) λok s9 ⟨H9,I9,q9⟩=>A5 ?_)))
   simp only[List.forIn_nil]
   refine A5 ?_
   cases ok with
   |false =>
    simp only[Af,Ih]at q9⊢
    exact A5 ⟨rfl,fin2 I9 q9⟩
   |true =>
    simp only[Ik]at q9⊢
    refine Ac (Ac (thn (he _ _ _ _ _ s9 σ8 H9 _ I9 q9) λv s10 ⟨y,H10,I10,r10,ys,e10,z10,n10⟩=>?_))
    refine Ac (thn (jay (X:=Y) _ s10 σ8 H10 (.ref s2.heap.objs.size) [y] (.ref s2.heap.objs.size) [v] (λw H'=>N σ8 H') I10 rfl (.cons r10 .nil) ⟨_,ys,y,rfl,rfl,jeg e10,z10,n10⟩) λw s11 ⟨_,H11,I11,_,n11⟩=>?_)
    exact A5 (A5 ⟨rfl,fin2 I11 n11⟩)
 exact codeAny_compStart_list loop (T.self _ 0 _ _ _ st4 loop)
theorem ps_setcIf{i:Nat}{y:Str}{py spos:Pos}(hN:X.N.Nodup)(hiN:X.N[i]?=some y)(hy:Loc X.env.scope y)(hc:X.calm=true)(c:CompOk X scope Nc js)(hi:PI X tg iter wi)(hg:∀C s3 H3 fp,PG (X.comp scope C Nc s3 H3 fp) tg g)
  (ht:∀C s3 H3 fp,PT (X.comp scope C Nc s3 H3 fp) cd tt) (he:∀C s3 H3 fp,PE (X.comp scope C Nc s3 H3 fp) elt te) (hsw:swapsWith (.ListComp elt [⟨tg,iter,[cd],0⟩] scope pos) (some (.Name y py)) spos.line X.env=pure true:=by rfl)
  (hs:∀x,foldedSetIterable iter X.env x=pure x:=by intro _;rfl) (hf:X.fn y=true\/X.env.scope.names.lookup y=some .local:=by first|exact .inl rfl|exact .inr rfl|assumption) :
  PS X (.Assign [.Name y py] (.ListComp elt [⟨tg,iter,[cd],0⟩] scope pos) spos) (tAsg (jcu wi g js tt te) (jc4 i)):=by
 intro pins s σ H D I h
 rw[exec_Assign_Name_used _ _ _ _ hsw]
 refine Ac (Uq (Ac ?_))
 show wpAny _ X.A (do let _ <-comprehension (.ListComp elt [⟨tg,iter,[cd],0⟩] scope pos) scope X.env _ (newList []) false (eval iter X.env) (some (assign (.Name y py) X.env))) _ _ s
 refine Ac (Ol (Wq (use:=some (assign (.Name y py) X.env)) (g:=⟨tg,iter,[cd],0⟩) (gs:=[]) (Q:=λ_ s'=>SP X pins D .next s') rfl hs (jfp (c.has I)) c.kind c.loc
  (jjq (RR:=λacc C=>compPost (model X.prog X.w) X.A X.xe (some (assign (.Name y py) X.env)) (λ_ s'=>SP X pins D .next s') acc C) (NX:=λDa H'=>D.nx (σ.set i (some (.ref Da))) H') hc c hi hg ht he I h λDa H3 s3 fp σ5 H5 s6 I3 f3 I6 qn=>?_))
  (λ_ s' hq=>A5 (A5 hq)) λ_ _ e=>e)
 obtain⟨m,hn,_⟩:=id I6.loc
 have I7:Inv X pins σ H5 s6:=jfq I3 f3 I6 (.refl ..)
 have hC:H5 s3.heap.objs.size=none:=I6.free
 have nL:s3.heap.objs.size≠X.env.locals:=Wo I3.lt
 have nc:∀x a,X.env.cells.lookup x=some a->a≠s3.heap.objs.size:=λx a e=>by
  obtain⟨v,q⟩:=I3.cell x a e
  exact Ip q.lt
 have np:∀p∈X.pn++pins,p.1≠s3.heap.objs.size:=λp hp=>Ip (A6 (I3.pin p hp).1)
 show wpAny _ _ (assign (.Name y py) X.env (.ref Da)) _ _ _
 refine wpAny_assign_Name (jf6 (v:=.ref Da) I7 hN hiN hy rfl (λs8 I8 hb=>?_) hf)
 obtain⟨a,hs8,ha⟩:=hb
 have nCa:s3.heap.objs.size≠a:=by
  rcases ha with z|z
  ·rw[z];exact nL
  ·exact(nc y a z).symm
 refine⟨m,hn.sameBut hs8 nCa,λh9 hs9=>?_⟩
 exact⟨_,H5,I8.turned (t':=s8.toks) (λb o hb e=>(hs9.2 b hb).trans e) hC nL (.inr (Io I3.sz (Al _))) nc np,qn⟩
theorem qps_setcIf{i:Nat}{y:Str}{py spos:Pos}(hN:X.N.Nodup)(hiN:X.N[i]?=some y)(hy:Loc X.env.scope y)(hc:X.calm=true)(c:CompOk X scope Nc js)(hi:QI X tg iter wi)(hg:∀C s3 H3 fp,QG (X.comp scope C Nc s3 H3 fp) tg g)
  (ht:∀C s3 H3 fp,QT (X.comp scope C Nc s3 H3 fp) cd tt) (he:∀C s3 H3 fp,QE (X.comp scope C Nc s3 H3 fp) elt te) (hsw:swapsWith (.ListComp elt [⟨tg,iter,[cd],0⟩] scope pos) (some (.Name y py)) spos.line X.env=pure true:=by rfl)
  (hs:∀x,foldedSetIterable iter X.env x=pure x:=by intro _;rfl) (hf:X.fn y=true\/X.env.scope.names.lookup y=some .local:=by first|exact .inl rfl|exact .inr rfl|assumption) :
  QS X (.Assign [.Name y py] (.ListComp elt [⟨tg,iter,[cd],0⟩] scope pos) spos) (tAsg (jcu wi g js tt te) (jc4 i)) :=
 ⟨ps_setcIf hN hiN hy hc c hi.h (λC s H f=>(hg C s H f).h) (λC s H f=>(ht C s H f).h) (λC s H f=>(he C s H f).h) hsw hs hf⟩
end
section
variable{D:Addr}{te:TE}{tt:TT}{E:Ends}{r:L2.St}{H:Hp}
theorem ji1{lo:Int}{n:Nat}(p:Nat->Bool)(f:Nat->V)(hz:n<=sizeLine)
  (ht:∀i,i<n->∀l Q,Q (p i) (upd H D (.lst l))->tt (some (.int (lo+(i:Nat)))::r) (upd H D (.lst l)) Q) (he:∀i,i<n->p i=true->∀l Q,Q (f i) (upd H D (.lst l))->te (some (.int (lo+(i:Nat)))::r) (upd H D (.lst l)) Q)
  (hn:∀v,E.nx (v::r) (upd H D (.lst (((List.range n).filter p).map f)))):jep (Itr lo n) (jc4 0) (jhy D tt te) E (none::r) (upd H D (.lst [])):=by
 refine jd7 (λi σ H'=>∃v:Option V,σ=v::r/\H'=upd H D (.lst (((List.range i).filter p).map f))) ⟨none,rfl,rfl⟩ ?_ ?_
 ·rintro i σ H' hi ⟨v,rfl,rfl⟩
  have hf:(((List.range i).filter p).map f).length<=i:=by
   rw[Aa]
   exact Io (List.length_filter_le _ _) (by rw[Of];omega)
  refine ht i hi _ _ ?_
  by_cases q:p i=true
  ·rw[q,Am rfl]
   refine he i hi q _ _ ⟨_,by rw[jb];rfl,by omega,some (.int (lo+(i:Nat))),rfl,?_⟩
   rw[jk6,Wj]
   simp[q]
  ·rw[Ah q]
   refine⟨some (.int (lo+(i:Nat))),rfl,?_⟩
   rw[Wj]
   simp[q]
 ·rintro σ H' ⟨v,rfl,rfl⟩
  exact hn v
end
def tMid(t u:TS):TS:=λD σ H=>∃J:L2.St->Hp->Prop,t {D with nx:=J} σ H/\∀σ H,J σ H->u D σ H
theorem pss_mid{X:Cx}{st:Stmt}{rest:List Stmt}{t u:TS}(h1:PS X st t)(h2:PSs X rest u):PSs X (st::rest) (tMid t u):=by
 intro pins s σ H D I h
 obtain⟨J,h,hJ⟩:=h
 refine Uu (thn (h1 pins s σ H {D with nx:=J} I h) λf s1 q=>?_)
 cases f with
 |next =>
  obtain⟨σ1,H1,I1,q1⟩:=q
  exact h2 pins s1 σ1 H1 D I1 (hJ _ _ q1)
 |ret v=>exact q
 |brk=>exact q
 |cont=>exact q
theorem ym{X:Cx}{st:Stmt}{rest:List Stmt}{t u:TS}(h1:QS X st t)(h2:QSs X rest u):QSs X (st::rest) (tMid t u):=⟨pss_mid h1.h h2.h⟩
section
variable{X:Cx}
theorem qps_never{st:Stmt}:QS X st jjl:=⟨ps_never⟩
end
theorem sl_UK{X:Cx}{K:PySem.W.Frag}(hK:X.K=K):SlR X (rSlU K):=by
 subst hK
 exact sl_U
section
variable{prog:Program}{w:World}{A:Around}{E:Value->Shared->Prop}{s:Shared}
theorem jmb{t sl:Addr}{items:Array Value}{vl vu:Value}{lo hi:Option Int}{Q:Value->Shared->Prop}(ht:IsTup s.heap t items)(hs:s.heap.IsSliceOf sl vl vu .none)(pl:IsPart vl lo)(pu:IsPart vu hi)
  (hw:HT.sIx items.size 0 lo=0/\HT.sIx items.size items.size hi=items.size) (h:Q (.ref t) s):wpAny (model prog w) A (getItem (.ref t) (.ref sl)) Q E s:=by
 obtain⟨os,hos,hcs,hds⟩:=id hs
 have hTs:s.TypeIs (.ref sl) "slice":=⟨os,hos,hcs⟩
 unfold getItem
 try with_reducible refine O9 ?_
 first|refine Ac (A5 ?_)|skip
 refine Ac (wpAny_sequenceKey ht.typeIs (by decide) ?_)
 refine Ac (wpAny_callSpecial?_slot (name:=Str.ofString "__getitem__") ht.typeIs Oo
  (wpAny_call_entry Oo ht.typeIs PyProof.Rows.entry_tuple_getitem ?_ (PyProof.Rows.args_tuple_getitem _ _)))
 show wpAny _ _ (Builtin.Tuple.tupleItemsOf (.ref t) >>= _) _ _ s
 refine Ac (tupleItemsOf_ ht ?_)
 refine Ac (wpAny_typeOf hTs ?_)
 rw[Am (by decide)]
 refine Ac (HT.sliceApplied_gen hs pl pu ?_)
 show wpAny _ _ (if(((HT.sIx items.size 0 lo:Nat):Int) == 0 && (1:Int) == 1 && (HT.sIx items.size items.size hi-HT.sIx items.size 0 lo) == items.size)=true then _ else _) _ _ s
 rw[Am (by rw[hw.1,hw.2];simp)]
 unfold Builtin.Tuple.tupleIsExact
 exact Ac (Ac (wpAny_typeOf ht.typeIs (A5 (by rw[Am (by decide)];exact Ac (Wr (A5 ⟨_,rfl,A5 h⟩))))))
end
section
variable{X:Cx}
def rSlW(K:PySem.W.Frag):V->Option Int->Option Int->Hp->VK->Prop:=λx lo hi H Q=>∃a xs,x=.ref a/\SqT K H a xs/\(HT.sIx xs.length 0 lo=0/\HT.sIx xs.length xs.length hi=xs.length)/\Q (.ref a) H
theorem sl_tupW:SlR X (rSlW X.K):=by
 intro pins s σ H x v vl vu lo hi sl Q I rx hs pl pu h
 obtain⟨a,xs,rfl,hx,hw,q⟩:=h
 cases rx
 obtain⟨its,r,ht,hz⟩:=I.tuple hx
 have hlen:its.toArray.size=xs.length:=by rw[Ia];exact r.length.symm
 refine⟨"tuple",_,Oo.lookup,ht.typeIs,?_⟩
 exact jmb ht hs pl pu (by rw[hlen];exact hw) ⟨.ref a,H,I,rfl,q⟩
def rSlV(K:PySem.W.Frag):V->Option Int->Option Int->Hp->VK->Prop:=λx lo hi H Q=>rSlU K x lo hi H Q\/rSlW K x lo hi H Q
theorem ja8{K:PySem.W.Frag}(hK:X.K=K):SlR X (rSlV K):=by
 subst hK
 exact SlR.or sl_U sl_tupW
theorem rSlV.tup{K:PySem.W.Frag}{H:Hp}{Q:VK}{a:Addr}{xs:List V}{lo hi:Option Int}(e:H a=some (.tup xs))(h:∀p H',H' p=some (.tup (cutV xs lo hi))->Kp [] H H'->Q (.ref p) H'):rSlV K (.ref a) lo hi H Q:=by
 by_cases w:HT.sIx xs.length 0 lo=0/\HT.sIx xs.length xs.length hi=xs.length
 ·refine .inr ⟨a,xs,rfl,SqT.of e,w,h a H ?_ (Kp.refl [] H)⟩
  have:cutV xs lo hi=xs:=by
   unfold cutV
   rw[w.1,w.2,List.drop_zero]
   exact Iy (by omega)
  rw[this];exact e
 ·exact .inl (rSlU.tup e w λp hp=>h p _ jb ((Kp.refl [] H).new hp))
end
open Builtin Builtin.ObjectAttr
section
variable{prog:Program}{w:World}{A:Around}{E:Value->Shared->Prop}{h:Heap}{g:Array GenState}{d:Drawn}{t:Nat}{os:OsState}
variable{nm q:Str}{C D N x:Addr}{bs bmB:List Value}{sn:List Str}{sub:List Value}{ab:Bool}{col:Option Bool}{dd:Option Addr}{k0 k1 k2 k3 k5:Option Value}{newId name:Str}{nid sa owner B:String}{v:Value}
def Finds(M:Model)(h:Heap)(C:Addr)(name:Str)(r:Option Value):Prop:=∀(A:Around)(E:Value->Shared->Prop)(g:Array GenState)(d:Drawn)(t:Nat)(os:OsState)(Q:Option Value->Shared->Prop),Q r ⟨h,g,d,t,os⟩->wpAny M A (typeLookup (.ref C) name) Q E ⟨h,g,d,t,os⟩
theorem Finds.go{M:Model}{r:Option Value}{Q:Option Value->Shared->Prop}(f:Finds M h C name r)(q:Q r ⟨h,g,d,t,os⟩):wpAny M A (typeLookup (.ref C) name) Q E ⟨h,g,d,t,os⟩:=f _ _ _ _ _ _ _ q
theorem Finds.of{M:Model}{K:PySem.W.Frag}{r:Option Value}(X:K.In h)(e:PySem.W.findIn K (.ref C) name=some r):Finds M h C name r:=λA E g d t os Q q=>(PySem.W.looks_findIn X e).at q
end
open Builtin Builtin.ObjectAttr
section
variable{prog:Program}{w:World}{A:Around}{E:Value->Shared->Prop}{h:Heap}{g:Array GenState}{d:Drawn}{t:Nat}{os:OsState}
variable{nm q:Str}{C D N x dx:Addr}{bs bmB:List Value}{sn:List Str}{sub:List Value}{ab:Bool}{col:Option Bool}{dd:Option Addr}{k0 k1 k2 k3 k5:Option Value}{name:Str}{nid B:String}{v:Value}{mA:Str->Option Value}
theorem ji5{M:Model}{o:Obj}{nameV:Value}{Q:Unit->Shared->Prop}(hB:bmB.contains (.type "BaseException")=true)(hC:h.get? C=some (excClassObj nm q C N bs (.ref D::bmB) true sn sub ab col dd k0 k1 k2 k3 k5 nid))
  (hx:h.get? x=some o) (hc:o.cls=.ref C) (hq:Q () ⟨h,g,d,t,os⟩):wpAny M A (checkBuiltinCall "BaseException.__getattribute__" ⟨[.ref x,nameV],[]⟩) Q E ⟨h,g,d,t,os⟩:=by
 have hk:builtinKind "BaseException.__getattribute__"=some .slot:=by decide +kernel
 have hsplit:splitId "BaseException.__getattribute__"=some ("BaseException","__getattribute__"):=by decide +kernel
 have hcB:(Value.ref C::.ref D::bmB).contains (.type "BaseException")=true:=by rw[Yg,Yg,hB,Bool.or_true,Bool.or_true]
 have ha:=PySem.F.args_bexc_ga (.ref x) nameV
 simp only[checkBuiltinCall,hk,hsplit]
 refine Ac ?_
 ·unfold isInstance
  repeat (first|(with_reducible refine On hx ?_;rw[hc])|(with_reducible refine Uy hC ?_;rw[hcB])|wp_step)
  exact hq
end
section
variable{prog:Program}{w:World}{A:Around}{E:Value->Shared->Prop}{h:Heap}{g:Array GenState}{d:Drawn}{t:Nat}{os:OsState}
variable{nm q:Str}{C N:Addr}{bs bm bmB:List Value}{hdct:Bool}{sn:List Str}{sub:List Value}{ab:Bool}{col:Option Bool}{dd:Option Addr}{k0 k1 k2 k3 k5:Option Value}{B newId initId:String}
theorem jli(F:ExcBaseFacts B newId initId bmB)(T:OwnTail h bmB bm){mN:Str->Option Value}{rest:List Value}{Q:Fin->Shared->Prop}
  (hC:h.get? C=some (excClassObj nm q C N bs bm hdct sn sub ab col dd k0 k1 k2 k3 k5 newId)) (hn:h.Ns N mN) (hni:mN "__init__"=none)
  (hq:∀h',(∀b o,h.get? b=some o->h'.get? b=some o)->h'.get? (h.objs.size+1)=some {cls:=.ref C,data:=.fields #[.ref (h.objs.size+2),.none,.none,.none,.bool false,.none]}->Q (.done (.ret (.ref (h.objs.size+1)))) ⟨h',g,d,t,os⟩) (hrest:rest.length<=sizeLine) :
  wpAny (model prog w) A (Builtin.«type.__call__» ⟨.ref C::rest,[]⟩) Q E ⟨h,g,d,t,os⟩:=by
 repeat (first|with_reducible refine On hC ?_|with_reducible refine wpAny_madeBy_exc hC ?_|wp_step)
 refine codeAny_call_builtin_code (Code.quiet_builtin _ F.quiet) (wpAny_check_new_subT F T hC ?_)
 refine codeAny_exc_new_subT F T hC ?_ hrest
 show wpAny _ _ _ _ _ _
 have kp:∀b o,h.get? b=some o->((h.push {cls:=.type "tuple",data:=.seq rest.toArray}).push {cls:=.ref C,data:=.fields #[.ref h.objs.size,.none,.none,.none,.bool false,.none]}).get? b=some o:=λb o e=>Ad _ (Ad _ e)
 have hget:((h.push {cls:=.type "tuple",data:=.seq rest.toArray}).push
   {cls:=.ref C,data:=.fields #[.ref h.objs.size,.none,.none,.none,.bool false,.none]}).get? (h.objs.size+1)=some
   {cls:=.ref C,data:=.fields #[.ref h.objs.size,.none,.none,.none,.bool false,.none]}:=by heap_get
 have hcC:(Value.ref C::bm).contains (.ref C)=true:=by simp
 have hC₁:=kp _ _ hC
 have T₁:=T.keeps kp
 unfold isInstance
 repeat (first|with_reducible refine On hget ?_|(with_reducible refine Uy hC₁ ?_;rw[hcC])|wp_step)
 show wpAny _ _ (typeLookup (.ref C) _) _ _ _
 refine wpAny_typeLookup_tail hC₁ (hn.keeps kp) T₁ F.mroIs F.init.lookup ?_
 rw[hni]
 refine O9 (Ac (wpAny_of_eq (F.init.bind _) ?_))
 refine Ac (wpAny_call (codeAny_call_builtin F.init.plain F.initEntry (wpAny_check_init_subT F T₁ hC₁ hget rfl ?_)))
 wp_walk
 refine hq _ (λb o hb=>?_) ?_
 ·rw[Og _ _ (Wo (Nat.lt_succ_of_lt (A6 hb)))]
  exact Ad _ (Ad _ (Ad _ hb))
 ·rw[U6 _ (Ad _ hget) rfl]
  simp only[Heap.size_push]
  rfl
theorem call_exc_make0(F:ExcBaseFacts B newId initId bmB)(T:OwnTail h bmB bm){mN:Str->Option Value}{rest:List Value}{Q:Value->Shared->Prop}
  (hC:h.get? C=some (excClassObj nm q C N bs bm hdct sn sub ab col dd k0 k1 k2 k3 k5 newId)) (hn:h.Ns N mN) (hni:mN "__init__"=none)
  (hq:∀h',(∀b o,h.get? b=some o->h'.get? b=some o)->h'.get? (h.objs.size+1)=some {cls:=.ref C,data:=.fields #[.ref (h.objs.size+2),.none,.none,.none,.bool false,.none]}->Q (.ref (h.objs.size+1)) ⟨h',g,d,t,os⟩) (hrest:rest.length<=sizeLine) :
  wpAny (model prog w) A (call (.ref C) rest) Q E ⟨h,g,d,t,os⟩:=by
 have f1:=tc_lookup
 have f2:=tc_bind (.ref C)
 have hT:(⟨h,g,d,t,os⟩:Shared).TypeIs (.ref C) "type":=⟨_,hC,rfl⟩
 refine wpAny_call (codeAny_of_tree ?_)
 show wpAny _ _ (callAny (.ref C) _) _ _ _
 repeat (any_goals (first|assumption|with_reducible refine On hC ?_|wp_step))
 refine⟨rfl,?_⟩
 exact codeAny_call_builtin_at (Code.quiet_builtin _ (by decide +kernel)) entry_typeCall (wpAny_check_type_call_sub hC (jli F T hC hn hni hq hrest))
end
abbrev bmVE:List Value:=[.type "ValueError",.type "Exception",.type "BaseException",.type "object"]
def excφ(a C:Addr)(dx:Option Addr)(h:Heap):Prop:=∃t,h.get? a=some {cls:=.ref C,dict:=dx,data:=.fields #[.ref t,.none,.none,.none,.bool false,.none]}
def ExO(a C:Addr)(dx:Option Addr):HO:=.ext (excφ a C dx)
theorem job{P:Program}{w:World}{H:Hp}{h:Heap}{a C:Addr}{dx:Option Addr}{t:Addr}(e:h.get? a=some {cls:=.ref C,dict:=dx,data:=.fields #[.ref t,.none,.none,.none,.bool false,.none]}):ObjOk P w H h a (ExO a C dx) :=
 ⟨⟨t,e⟩,⟨_,e⟩,λh1 h2 ⟨t',e1⟩ k=>⟨t',k _ e1⟩⟩
structure XC(K:PySem.W.Frag)(C D N:Addr):Prop where
 sh:∃nm q bs sn sub ab col dd k0 k1 k2 k3 k5,K.lookup C=some (excClassObj nm q C N bs (.ref D::bmVE) true sn sub ab col dd k0 k1 k2 k3 k5 "ValueError.__new__")
 tl:PySem.W.tailIn K bmVE (.ref D::bmVE)=true
 ns:PySem.W.nsOkIn K N=true
 sa:PySem.W.findIn K (.ref C) "__setattr__"=some (some (.builtin "object.__setattr__"))
 ga:PySem.W.findIn K (.ref C) "__getattribute__"=some (some (.builtin "BaseException.__getattribute__"))
 gx:PySem.W.findIn K (.ref C) "__getattr__"=some none
 kp:PySem.W.keepIn K (.ref C)=true
section
variable{X:Cx}{pins:List (Addr×Obj)}{σ:St}{H:Hp}{s:Shared}{C D N:Addr}
def jdh(C:Addr):TE:=λσ H Q=>∀e,H e=none->Q (.ref e) (upd H e (ExO e C none))
theorem pe_exc0{x:Str}{p pos:Pos}(c:XC X.K C D N)(ni:PySem.W.nsIn X.K N "__init__"=some none)(hg:Gl X x)(hm:X.mg x=some (.ref C))(hdb:(x == ("__debug__":Str))=false:=by decide) :
  PE X (.Call (.Name x p) [] [] pos) (jdh C):=by
 intro pins s σ H Q I h
 refine Uc (je9 I hg hm ?_ hdb)
 refine PySem.W.callWith_K0 I.kIn c.kp ?_
 obtain⟨nm,q,bs,sn,sub,ab,col,dd,k0,k1,k2,k3,k5,lk⟩:=c.sh
 have hC:=I.kIn _ _ lk
 have hn:=Heap.Ns.of_isNs (PySem.W.isNs_of_in I.kIn c.ns)
 have hni:=PySem.W.nsMap_none_of_in I.kIn c.ns ni
 have T:=PySem.W.tail_of_in I.kIn c.tl
 obtain⟨hh,g,d,t,os⟩:=s
 refine call_exc_make0 PySem.F.excBase_ValueError T hC hn hni (λh' k e=>?_) (O8 _)
 exact⟨.ref _,_,I.laid (t':=t) k (Nat.le_succ _) (job e),rfl,h _ (I.hok.fresh (Nat.le_succ _))⟩
end
open Builtin Builtin.ObjectAttr
section
variable{prog:Program}{w:World}{A:Around}{E:Value->Shared->Prop}{h:Heap}{g:Array GenState}{d:Drawn}{t:Nat}{os:OsState}
variable{nm q:Str}{C D N x:Addr}{bs bmB:List Value}{sn:List Str}{sub:List Value}{ab:Bool}{col:Option Bool}{dd:Option Addr}{k0 k1 k2 k3 k5:Option Value}{nid:String}{K:PySem.W.Frag}
theorem jg8{tk:Tok}{o:Obj}{od:Option Obj}{Q:Fin->Shared->Prop}(X:K.In h)(hC:h.get? C=some (excClassObj nm q C N bs (.ref D::bmB) true sn sub ab col dd k0 k1 k2 k3 k5 nid))
  (hl:Finds (model prog w) h C "__class__" (some (.builtin "object.__class__"))) (I:PySem.W.InstAt h x o C od) (hm:PySem.W.mroIn K C (.type "object")=some true) (hq:Q (.done (.ret (.ref C))) ⟨h,g,d,t,os⟩) :
  wpAny (model prog w) A (Builtin.«object.__getattribute__» ⟨[.ref x,.str "__class__" tk],[]⟩) Q E ⟨h,g,d,t,os⟩:=by
 have hx:=I.at_
 have hc:o.cls=.ref C:=I.cls
 have f5:=PySem.F.typeOf_object_class
 have f6:=PySem.F.slot_gs_get.lookup
 have f7:=PySem.F.slot_gs_set.lookup
 have hT5:(⟨h,g,d,t,os⟩:Shared).TypeIs (.builtin "object.__class__") "getset_descriptor":=f5
 unfold Builtin.«object.__getattribute__»
 repeat (any_goals (first|assumption|(with_reducible refine On hx ?_;rw[hc])|(with_reducible refine Finds.go hl ?_)|wp_step))
 refine PySem.W.class_get (K:=K) (s:=⟨h,g,d,t,os⟩) X I hm ?_
 repeat (any_goals (first|assumption|wp_step))
theorem jhu{o:Obj}{od:Option Obj}{Q:Option Value->Shared->Prop}(X:K.In h)(hB:bmB.contains (.type "BaseException")=true)(hC:h.get? C=some (excClassObj nm q C N bs (.ref D::bmB) true sn sub ab col dd k0 k1 k2 k3 k5 nid))
  (hg:Finds (model prog w) h C "__getattribute__" (some (.builtin "BaseException.__getattribute__"))) (hh:Finds (model prog w) h C "__getattr__" none)
  (hl:Finds (model prog w) h C "__class__" (some (.builtin "object.__class__"))) (I:PySem.W.InstAt h x o C od) (hm:PySem.W.mroIn K C (.type "object")=some true)
  (hq:Q (some (.ref C)) ⟨h,g,d,t+1,os⟩):wpAny (model prog w) A (getAttr? (.ref x) "__class__") Q E ⟨h,g,d,t,os⟩:=by
 have hx:=I.at_
 have hc:o.cls=.ref C:=I.cls
 have f3:=PySem.F.attrBase_ValueError.ga.bind (.ref x)
 have hx2:(Value.builtin "BaseException.__getattribute__" == Value.builtin "object.__getattribute__")=false:=by decide +kernel
 have hx1:(onTheHeap (Value.ref C) && Value.builtin "BaseException.__getattribute__" == Value.builtin "object.__getattribute__")=false:=by rw[hx2];rfl
 unfold getAttr? getAttrBy? getAttrBy
 repeat (any_goals (first|assumption|(with_reducible refine On hx ?_;rw[hc])|(with_reducible refine Finds.go hg ?_)|(with_reducible refine Finds.go hh ?_)|wp_step))
 refine codeAny_call_builtin PySem.F.attrBase_ValueError.ga.plain PySem.F.entry_bexc_ga (ji5 hB hC hx hc (jg8 X hC hl I hm ?_))
 show wpAny _ _ (handedOut (.ref C)) _ _ _
 rw[PySem.W.handedOut_of rfl]
 exact A5 (A5 hq)
end
structure XI(K:PySem.W.Frag)(C:Addr):Prop where
 cl:PySem.W.findIn K (.ref C) "__class__"=some (some (.builtin "object.__class__"))
 ob:PySem.W.mroIn K C (.type "object")=some true
theorem jgl{K:PySem.W.Frag}{C D N x:Addr}(c:XC K C D N)(xi:XI K C):PySem.W.KitX K (.ref x) (.ref C) (λh=>∃o od,PySem.W.InstAt h x o C od) where
 ty:=λM h X ⟨o,od,I⟩=>I.type
 it:=λM h X _=>by
  obtain⟨nm,q,bs,sn,sub,ab,col,dd,k0,k1,k2,k3,k5,lk⟩:=c.sh
  intro A' Q' E' s' k q
  unfold isType loadHead
  exact Ac (wpAny_loadPart (k _ _ (X _ _ lk)) (A5 q))
 ne:=λh tp dd its n sl X htp=>by
  obtain⟨nm,q,bs,sn,sub,ab,col,dd,k0,k1,k2,k3,k5,lk⟩:=c.sh
  refine Uk.mpr λq=>?_
  have e:C=tp:=Value.ref.inj (beq_iff_eq.mp q)
  subst e
  have z:=(X _ _ lk).symm.trans htp
  simp at z
 ca:=fun{prog w A E Q s} X ⟨o,od,I⟩ k=>by
  obtain⟨nm,q,bs,sn,sub,ab,col,dd,k0,k1,k2,k3,k5,lk⟩:=c.sh
  obtain⟨hh,g,d,tk,os⟩:=s
  exact jhu X (by decide) (X _ _ lk) (Finds.of X c.ga) (Finds.of X c.gx) (Finds.of X xi.cl) I xi.ob k
end L2
set_option autoImplicit true
set_option relaxedAutoImplicit true
namespace L2
open PySem PySem.Spec PyProof.Rows
section
variable{X:Cx}{K:PySem.W.Frag}
theorem qpe_exc0{x:Str}{p pos:Pos}{C D N:Addr}(hK:X.K=K)(c:XC K C D N)(ni:PySem.W.nsIn K N "__init__"=some none)(hg:Gl X x)(hm:X.mg x=some (.ref C))(hdb:(x == ("__debug__":Str))=false:=by decide) :
  QE X (.Call (.Name x p) [] [] pos) (jdh C):=by subst hK;exact⟨pe_exc0 c ni hg hm hdb⟩
end
theorem jmn{K:PySem.W.Frag}{C:Addr}:PySem.W.kitOne K (.ref C) (.ref C)=some true:=Am (by simp)
end L2
namespace HT
open PySem PyProof.Rows
section
open PySem.AutoSeq1 (wpAny_loadPart')
open PySem.MeetsSeq PySem.MeetsSeq2 PySem.MeetsSeq3
theorem tuple_add0(l b:Addr)(items2:Array Value)(n n2:Nat)(dd dd2:Option Addr)(sl sl2:Array (Option Value)) :
  Meets (Builtin.«tuple.__add__» ⟨[.ref l,.ref b],[]⟩)
   (λ_ R s=>s.heap.get? l=some {cls:=.type "tuple",dict:=dd,data:=.seq #[] n,slots:=sl}/\s.heap.get? b=some {cls:=.type "tuple",dict:=dd2,data:=.seq items2 n2,slots:=sl2}/\R (.ok (.ret (.ref b))) s) :=
 .of_wp λprog w A R s h=>by
  obtain⟨hp,g,d,tk,os⟩:=s;obtain⟨hl,hb,h⟩:=h
  have f2:=AutoSeq1.sub_tuple_tuple
  wp_walk using U0 hl,U0 hb
  exact⟨_,rfl,h⟩
end
end HT
set_option autoImplicit true
set_option relaxedAutoImplicit true
namespace L2
open PySem PySem.Spec PyProof.Rows
theorem jm8{K:PySem.W.Frag}{N:Addr}{no:Value}{nd:Option Addr}{es:Array DictEntry}{en:Nat}{nl:Array (Option Value)}(l:K.lookup N=some ⟨no,nd,.dict es en,nl⟩)(e:(es.all λe=>match e.key with|.str _ _=>true|_=>false)=true):PySem.W.nsOkIn K N=true:=by
 unfold PySem.W.nsOkIn
 rw[l]
 exact e
section
variable{K:PySem.W.Frag}{C C' D N N':Addr}{nm q nm' q':Str}{bs bm bs' bm':List Value}{sn sn':List Str}{sub sub':List Value}{ab ab' hd hd':Bool}{col col':Option Bool}{dd dd':Option Addr}{k0 k1 k2 k3 k5 j0 j1 j2 j3 j5:Option Value}{nid nid':String}
theorem jn2(l:K.lookup D=some (excClassObj nm q D N bs bm hd sn sub ab col dd k0 k1 k2 k3 k5 nid))(ns:PySem.W.nsOkIn K N=true)(i:PySem.W.nsIn K N "__init__"=some none):PySem.W.tailIn K bmVE (.ref D::bmVE)=true:=by
 unfold PySem.W.tailIn
 dsimp only
 rw[l]
 dsimp only
 rw[ns,i]
 have:PySem.W.tailIn K bmVE bmVE=true:=by
  unfold PySem.W.tailIn
  simp
 rw[this]
 simp
theorem jnq{c:Value}(l:K.lookup C=some (excClassObj nm q C N bs bm hd sn sub ab col dd k0 k1 k2 k3 k5 nid)):PySem.W.subIn K (.ref C) c=some ((Value.ref C::bm).contains c):=by
 unfold PySem.W.subIn PySem.W.mroIn PySem.W.clsIn
 dsimp only
 rw[l]
 rfl
theorem jhd(l:K.lookup C=some (excClassObj nm q C N bs (.ref D::bmVE) hd sn sub ab col dd k0 k1 k2 k3 k5 nid))(l':K.lookup C'=some (excClassObj nm' q' C' N' bs' bm' hd' sn' sub' ab' col' dd' j0 j1 j2 j3 j5 nid'))(ty:PySem.W.typeIn K (.ref C')=some (.type "type"))(n:C≠C')(nD:C'≠D) :
  PySem.W.kitOne K (.ref C) (.ref C')=some false:=by
 unfold PySem.W.kitOne
 rw[Ah (by simpa using n)]
 unfold PySem.W.kitCls
 have:((PySem.W.clsIn K C').isSome && PySem.W.typeIn K (.ref C') == some (.type "type"))=true:=by
  rw[ty]
  unfold PySem.W.clsIn
  rw[l']
  rfl
 dsimp only
 rw[Am this,jnq l]
 simp[O3 n,nD]
end
section
variable{M:Model}{A:Around}{E:Value->Shared->Prop}{s:Shared}
theorem jbf{base:Heap}{env:Env}{outer:List Env}{L e:Addr}{c:Value}{dx:Option Addr}{sl:Array (Option Value)}{vs:Array Value}{head:Value}{hn:Bool}{Q:Unit->Shared->Prop}
  (fr:A.frames=some (env::outer)) (ff:s.heap.FunFrames base (env::outer)) (ef:env.frame=some L) (he:s.heap.get? e=some ⟨c,dx,.fields vs,sl⟩) (ne:e∉frs (env::outer)) (hsz:1<vs.size)
  (q:∀h' T oT ts,(∀b o,b≠e->b∉frs (env::outer)->s.heap.get? b=some o->h'.get? b=some o)->(∀b o,b≠e->s.heap.get? b=some o->∃sl',h'.get? b=some {o with slots:=sl'}) ->
   h'.get? e=some ⟨c,dx,.fields (vs.setIfInBounds 1 (.ref T)),sl⟩->s.heap.objs.size<=T->T≠e->h'.get? T=some oT->oT.data=.fields ts->ts[3]?=some (rawInt L)->Q () {s with heap:=h'}) :
  wpAny M A (do let a <-frameOf env;let pl <-entryPlaceOf L hn;let b <-EntryCells.newEntry head a .none (rawInt L) .none pl;setField (.ref e) 1 b) Q E s:=by
 refine Ac (wpAny_frameOf_fun fr ff ef λh1 so=>?_)
 refine Ac (wpAny_entryPlaceOf λpl ip=>?_)
 unfold EntryCells.newEntry newFields
 refine Ac (Uj ?_ (ip.sizeOk5 _ _ _ _ _))
 have e1:h1.get? e=some ⟨c,dx,.fields vs,sl⟩:=(so.2.1 e ne).trans he
 have e2:=Ad (h:=h1) (⟨.type "traceback",none,.fields ([head,.ref L,.none,rawInt L,.none]++(if pl.isEmpty then List.replicate 6 Value.none else pl)).toArray,#[]⟩:Obj) e1
 refine wpAny_setField e2 rfl hsz ?_
 have nT:h1.objs.size≠e:=Wo (A6 e1)
 have kp:∀b o,b≠e->h1.get? b=some o->((h1.push (⟨.type "traceback",none,.fields ([head,.ref L,.none,rawInt L,.none]++(if pl.isEmpty then List.replicate 6 Value.none else pl)).toArray,#[]⟩:Obj)).update e (Obj.mapFields (·.setIfInBounds 1 (Value.ref h1.objs.size)))).get? b=some o:=λb o hb ho=>by
  rw[Og _ _ (O3 hb)]
  exact Ad _ ho
 refine q _ h1.objs.size _ _ (λb o hb hf ho=>kp b o hb ((so.2.1 b hf).trans ho)) (λb o hb ho=>?_) ?_ (Nat.le_of_eq so.1.symm) nT ((Og _ _ (O3 nT)).trans (Ir h1 rfl)) rfl ?_
 ·obtain⟨sl',e3⟩:=so.2.2 b o ho
  exact⟨sl',kp b _ hb e3⟩
 ·rw[U6 _ e2 rfl]
  rfl
 ·first
   |(simp;done)
   |(rcases ip with rfl|⟨_,_,_,_,_,_,_,rfl⟩ <;> simp)
end
section
variable{X:Cx}{pins:List (Addr×Obj)}{σ:St}{H H':Hp}{s:Shared}{a C T:Addr}{dx:Option Addr}{fl:Option Value}
structure Own(X:Cx)(pins:List (Addr×Obj))(H:Hp)(b:Addr):Prop where
 new:X.s₀.heap.get? b=none
 free:H b=none
 loc:b≠X.env.locals
 cell:∀x c,X.env.cells.lookup x=some c->c≠b
 pin:∀p∈X.pn++pins,p.1≠b
 fr:b∉frs X.stack
theorem Inv.frThere(I:Inv X pins σ H s){b:Addr}(hb:b∈frs X.stack):∃o,s.heap.get? b=some o:=by
 obtain⟨_,o,ho,_⟩:=I.stack.mem hb
 exact⟨o,ho⟩
theorem Inv.own(I:Inv X pins σ H s)(hx:X.ex=[]){b:Addr}(n:s.heap.get? b=none)(hf:H' b=none):Own X pins H' b:=by
 refine⟨?_,hf,?_,λx c e z=>?_,λp hp z=>?_,λhb=>?_⟩
 ·cases e:X.s₀.heap.get? b with
  |none=>rfl
  |some o =>
   obtain⟨o',e'⟩:=I.base.there b o e (by rw[hx];simp)
   rw[n]at e';cases e'
 ·rintro rfl
  obtain⟨m,⟨o,_,_,ho,_⟩,_⟩:=I.loc
  rw[n]at ho;cases ho
 ·subst z
  obtain⟨v,o,ho,_⟩:=I.cell x c e
  rw[n]at ho;cases ho
 ·have:=(I.pin p hp).1
  rw[z,n]at this;cases this
 ·obtain⟨o,ho⟩:=I.frThere hb
  rw[n]at ho;cases ho
theorem Inv.fly{h':Heap}{t':Nat}{φ:Addr->Prop}(I:Inv X pins σ H s)(hφ:∀b,φ b->Own X pins H b)
  (k:∀b o,¬φ b->b∉frs X.stack->s.heap.get? b=some o->h'.get? b=some o) (ks:∀b o,¬φ b->s.heap.get? b=some o->∃sl,h'.get? b=some {o with slots:=sl}):Inv X pins σ H {s with heap:=h',toks:=t'}:=by
 have old:∀b o,X.s₀.heap.get? b=some o->¬φ b:=λb o e z=>by rw[(hφ b z).new]at e;cases e
 have trd:∀b u,H b=some u->¬φ b/\b∉frs X.stack:=λb u e=>⟨λz=>(by rw[(hφ b z).free]at e;cases e),λz=>(by rw[I.stkFree b z]at e;cases e)⟩
 have cel:∀x c,X.env.cells.lookup x=some c->∀v,s.heap.IsCell c v->h'.IsCell c v:=λx c e v ⟨o,ho,hd⟩=>by
  obtain⟨sl,q⟩:=ks c o (λz=>(hφ c z).cell x c e rfl) ho
  exact⟨_,q,hd⟩
 refine⟨I.ok,I.os,I.bare,⟨λb o e n hb hx=>?_,λb o e n hb hx=>?_,I.base.free,λb o e hx=>?_,I.base.tups,I.base.frzs,I.base.tbls⟩,?_,λx c e=>?_,I.free,I.freeC,λp hp=>?_,λb u e=>?_,I.len⟩
 ·refine k b o (old b o e) (λz=>?_) (I.base.keep b o e n hb hx)
  rcases Il.mp (I.stkSub b z)with r|r
  ·exact absurd (r▸A6 e) (Nat.not_lt.mpr I.ok.above)
  ·exact hb r
 ·obtain⟨sl,e1⟩:=I.base.slot b o e n hb hx
  obtain⟨sl',e2⟩:=ks b _ (old b o e) e1
  exact⟨sl',e2⟩
 ·obtain⟨o',e1⟩:=I.base.there b o e hx
  obtain⟨sl,e2⟩:=ks b o' (old b o e) e1
  exact⟨_,e2⟩
 ·obtain⟨m,⟨o,es,ep,ho,r⟩,hl⟩:=I.loc
  obtain⟨sl,e2⟩:=ks _ o (λz=>(hφ _ z).loc rfl) ho
  refine⟨m,⟨_,es,ep,e2,r⟩,λi x v e1 e3 e4=>?_⟩
  obtain⟨u,ru,l⟩:=hl i x v e1 e3 e4
  refine⟨u,ru,?_⟩
  rcases l with l|⟨kk,c,e,z⟩
  ·exact .inl l
  ·exact .inr ⟨kk,c,e,cel x c e _ z⟩
 ·obtain⟨v,z⟩:=I.cell x c e
  exact⟨v,cel x c e v z⟩
 ·obtain⟨e,n,ne,nf,d⟩:=I.pin p hp
  refine⟨k p.1 p.2 (λz=>(hφ _ z).pin p hp rfl) (λz=>?_) e,n,ne,nf,d⟩
  rcases Il.mp (I.stkSub _ z)with r|r
  ·exact ne r
  ·exact nf r
 ·refine(I.hok b u e).stay (λc v hc q=>?_) (λ_ q=>q) λ_ _ q=>q
  rcases hc with rfl|hc
  ·exact k c v (trd c u e).1 (trd c u e).2 q
  ·exact k c v (trd c _ hc).1 (trd c _ hc).2 q
structure FlS(X:Cx)(pins:List (Addr×Obj))(H:Hp)(h:Heap)(a C:Addr)(dx:Option Addr)(fl:Option Value):Prop where
 own:Own X pins H a
 ex:∃vs sl,h.get? a=some ⟨.ref C,dx,.fields vs,sl⟩/\match fl with
  |none=>vs[1]?=some .none
  |some f=>∃T oT ts,vs[1]?=some (.ref T)/\Own X pins H T/\T≠a/\h.get? T=some oT/\oT.data=.fields ts/\ts[3]?=some f
theorem jkj{M:Model}{A:Around}{E:Value->Shared->Prop}{Q:Unit->Shared->Prop}(I:Inv X pins σ H s)(hA:A.frames=X.A.frames)(hs:X.stack=X.env::X.outer/\X.env.frame=some X.env.locals)(hx:X.ex=[])(f:FlS X pins H s.heap a C dx fl)(hfl:fl=none\/fl=some .none)
  (q:∀s',Inv X pins σ H s'->FlS X pins H s'.heap a C dx (some (rawInt X.env.locals))->Q () s'):wpAny M A (noteFrame (.ref a) X.env) Q E s:=by
 obtain⟨own,vs,sl,ea,r⟩:=f
 have fr:A.frames=some (X.env::X.outer):=by rw[hA,I.ok.frames,hs.1]
 have ff:=I.stack
 rw[hs.1]at ff
 have nf:a∉frs (X.env::X.outer):=by rw[<-hs.1];exact own.fr
 unfold noteFrame
 simp only[hs.2]
 rcases hfl with rfl|rfl
 ·have hsz:1<vs.size:=(Ur.mp r).1
  refine Ac (Wf ea rfl r ?_)
  rw[Ah (by decide)]
  refine jbf fr ff hs.2 ea nf hsz λh' T oT ts k ks e1 zT nT eT dT fT=>q _ (I.fly (t':=s.toks) (φ:=λb=>b=a) (λb e=>e▸own) (λb o e hb ho=>k b o e (by rw[<-hs.1];exact hb) ho) λb o e ho=>ks b o e ho) ?_
  exact⟨own,_,sl,e1,T,oT,ts,by simp[hsz],I.own hx (Wa zT) (I.hok.fresh zT),nT,eT,dT,fT⟩
 ·obtain⟨T0,o0,t0,v1,ow0,n0,e0,d0,f0⟩:=r
  have hsz:1<vs.size:=(Ur.mp v1).1
  refine Ac (Wf ea rfl v1 ?_)
  rw[Am (show(Value.ref T0 != Value.none)=true from by simp)]
  refine Ac (Wf e0 d0 f0 ?_)
  rw[Ah (show ¬((Value.none == rawInt X.env.locals)=true)from by simp[rawInt])]
  refine Ac (wpAny_setField e0 d0 (Ur.mp f0).1 ?_)
  have oth:∀b,b≠T0->(s.heap.update T0 (Obj.mapFields (·.setIfInBounds 3 Value.none))).get? b=s.heap.get? b:=λb hb=>Og _ _ (O3 hb)
  have I1:Inv X pins σ H {s with heap:=s.heap.update T0 (Obj.mapFields (·.setIfInBounds 3 Value.none))} :=
   I.fly (t':=s.toks) (φ:=λb=>b=T0) (λb e=>e▸ow0) (λb o e _ ho=>(oth b e).trans ho) λb o e ho=>⟨o.slots,(oth b e).trans ho⟩
  have ff1:=I1.stack
  rw[hs.1]at ff1
  refine jbf (s:={s with heap:=s.heap.update T0 (Obj.mapFields (·.setIfInBounds 3 Value.none))}) fr ff1 hs.2 ((oth a (O3 n0)).trans ea) nf hsz λh' T oT ts k ks e1 zT nT eT dT fT=>q _ (I1.fly (t':=s.toks) (φ:=λb=>b=a) (λb e=>e▸own) (λb o e hb ho=>k b o e (by rw[<-hs.1];exact hb) ho) λb o e ho=>ks b o e ho) ?_
  exact⟨own,_,sl,e1,T,oT,ts,by simp[hsz],I1.own hx (Wa zT) (I1.hok.fresh zT),nT,eT,dT,fT⟩
theorem land{M:Model}{A:Around}{E:Value->Shared->Prop}{Q:Unit->Shared->Prop}{fv:Value}(I:Inv X pins σ H s)(f:FlS X pins H s.heap a C dx (some fv))
  (q:∀s',Inv X pins σ H s'->FlS X pins H s'.heap a C dx (some .none)->Q () s'):wpAny M A (setFlight (.ref a) none) Q E s:=by
 obtain⟨own,vs,sl,ea,T0,o0,t0,v1,ow0,n0,e0,d0,f0⟩:=f
 have h3:3<t0.size:=(Ur.mp f0).1
 have oth:∀b,b≠T0->(s.heap.update T0 (Obj.mapFields (·.setIfInBounds 3 ((none:Option Addr).elim Value.none λf=>rawInt f)))).get? b=s.heap.get? b:=λb hb=>Og _ _ (O3 hb)
 unfold setFlight
 refine Ac (Wf ea rfl v1 ?_)
 rw[Am (show(Value.ref T0 != Value.none)=true from by simp)]
 refine wpAny_setField e0 d0 h3 (q _ (I.fly (t':=s.toks) (φ:=λb=>b=T0) (λb e=>e▸ow0) (λb o e _ ho=>(oth b e).trans ho) λb o e ho=>⟨o.slots,(oth b e).trans ho⟩) ?_)
 exact⟨own,vs,sl,(oth a (O3 n0)).trans ea,T0,_,_,v1,ow0,n0,U6 _ e0 (Obj.isFreed_of_fields (Obj.data_mapFields d0 _)),Obj.data_mapFields d0 _,by simp[h3]⟩
end
def CXE(P:Program)(w:World):CXT:=λouter H s E e s'=>∃a C dx H',e=.ref a/\s'.os=s.os/\AllBare s'.gens/\Un (frs outer) [] H H' s.heap s'.heap/\HOk P w H' s'.heap/\(s.heap.get? a=none/\H' a=none) /\
 (∃vs sl T oT ts,s'.heap.get? a=some ⟨.ref C,dx,.fields vs,sl⟩/\vs[1]?=some (.ref T)/\(s.heap.get? T=none/\H' T=none)/\T≠a/\s'.heap.get? T=some oT/\oT.data=.fields ts/\ts[3]?=some .none)/\E (.ref C) dx H'
def Leaves(X:Cx)(E:XK):Prop:=∀(pins:List (Addr×Obj))(σ:St)(H:Hp)(s:Shared)(a C:Addr)(dx:Option Addr)(fl:Option Value),Inv X pins σ H s->FlS X pins H s.heap a C dx fl->(fl=none\/fl=some .none)->E (.ref C) dx H->X.xe (.ref a) s
section
variable{X:Cx}{E:XK}
theorem jm4{pins:List (Addr×Obj)}{σ:St}{H H1:Hp}{s s':Shared}{P:Program}{w:World}(I:Inv X pins σ H s)(hP:X.prog=P)(hw:X.w=w)(hx:X.ex=[]){e:Value}(h:CXE P w X.stack H s E e s') :
  ∃a C dx H',e=.ref a/\Inv X pins σ H' s'/\FlS X pins H' s'.heap a C dx (some .none)/\E (.ref C) dx H':=by
 subst hP hw
 obtain⟨a,C,dx,H',rfl,os,bare,un,hok,⟨na,fa⟩,⟨vs,sl,T,oT,ts,ea,v1,⟨nT,fT⟩,nTa,eT,dT,f3⟩,hE⟩:=h
 have I':Inv X pins σ H' s':=I.call' os un hok bare (λb z=>absurd z (by simp))
 exact⟨a,C,dx,H',rfl,I',⟨I.own hx na fa,vs,sl,ea,T,oT,ts,v1,I.own hx nT fT,nTa,eT,dT,f3⟩,hE⟩
theorem Leaves.passes(l:Leaves X E)(hx:X.ex=[]):jfv (CXE X.prog X.w) X E:=λpins σ H s e s' I h=>by
 obtain⟨a,C,dx,H',rfl,I',f,hE⟩:=jm4 (H1:=H) I rfl rfl hx h
 exact l pins σ H' s' a C dx _ I' f (.inr rfl) hE
theorem leaves_of{P:Program}{w:World}{K:PySem.W.Frag}{mg:Str->Option Value}{base:Heap}{N:List Str}{qual:Str}{scope:Scope}{f:Addr}{cd:Value}{A:Around}{outer:List Env}{s:Shared}{H:Hp} :
  Leaves (cxOf (CXE P w) P w K mg base N qual scope f cd A outer s H E) E:=by
 intro pins σ H1 s1 a C dx fl I fS hfl hE
 show wpAny _ _ (leaving _ _) _ _ _
 unfold leaving
 refine Ac (jkj I rfl ⟨rfl,rfl⟩ rfl fS hfl λs2 I2 f2=>land I2 f2 λs3 I3 f3=>?_)
 obtain⟨own,vs,sl,ea,T,oT,ts,v1,ow,nT,eT,dT,f3⟩:=f3
 exact⟨a,C,dx,H1,rfl,I3.os,I3.bare,I3.base,I3.hok,⟨own.new,own.free⟩,⟨vs,sl,T,oT,ts,ea,v1,⟨ow.new,ow.free⟩,nT,eT,dT,f3⟩,hE⟩
end
section
variable{M:Model}{A:Around}{E:Value->Shared->Prop}{s:Shared}{env:Env}
variable{nm q:Str}{C N:Addr}{bs bm:List Value}{hdct:Bool}{sn:List Str}{sub:List Value}{ab:Bool}{col:Option Bool}{dd:Option Addr}{k0 k1 k2 k3 k5:Option Value}{newId:String}
theorem jjs{h:Heap}{g:Array GenState}{d:Drawn}{t:Nat}{os:OsState}{e D N':Addr}{oe:Obj}{nm' q':Str}{bs' bm':List Value}{hd':Bool}{sn':List Str}{sub':List Value}{ab':Bool}{col':Option Bool}{dd':Option Addr}{j0 j1 j2 j3 j5:Option Value}{nid':String}{Q:Bool->Shared->Prop}
  (hC:h.get? C=some (excClassObj nm q C N bs bm hdct sn sub ab col dd k0 k1 k2 k3 k5 newId)) (hD:h.get? D=some (excClassObj nm' q' D N' bs' bm' hd' sn' sub' ab' col' dd' j0 j1 j2 j3 j5 nid')) (ee:h.get? e=some oe) (ec:oe.cls=.ref C) (hb:(Value.ref D::bm').contains (.type "BaseException")=true)
  (hi:(Value.ref C::bm).contains (.ref D)=true) (hq:Q true ⟨h,g,d,t,os⟩):wpAny M A (excMatches (.ref e) (.ref D)) Q E ⟨h,g,d,t,os⟩:=by
 have f:=tc_notTuple
 unfold excMatches
 repeat (first|(with_reducible refine On ee ?_;rw[ec])|with_reducible refine On hD ?_|with_reducible refine On hC ?_|(with_reducible refine Uy hD ?_;rw[hb])|(with_reducible refine Uy hC ?_;rw[hi])|wp_step)
 exact hq
end
section
variable{X:Cx}{pins:List (Addr×Obj)}{σ:St}{H H':Hp}{s:Shared}{a C D N:Addr}{dx:Option Addr}
def je3(H:Hp)(a:Addr):Hp:=λb=>if b=a then none else H b
theorem jg7{H:Hp}{a:Addr}:je3 H a a=none:=Am rfl
theorem jew{H:Hp}{a b:Addr}(h:b≠a):je3 H a b=H b:=Ah h
theorem Inv.dropX(I:Inv X pins σ H s){φ:Heap->Prop}(e:H a=some (.ext φ)):Inv X pins σ (je3 H a) s:=by
 have nn:∀b,H b=none->je3 H a b=none:=λb n=>by unfold je3;split <;> first|rfl|exact n
 have ne:∀b u,H b=some u->(∀φ,u≠.ext φ)->b≠a:=λb u q n z=>by subst z;rw[e]at q;cases q;exact n _ rfl
 refine⟨I.ok,I.os,I.bare,⟨I.base.keep,I.base.slot,λb o q n hx=>nn b (I.base.free b o q n hx),I.base.there,λb xs q=>?_,λb o u q=>?_,λb ps q=>?_⟩,I.loc,I.cell,nn _ I.free,λx c q=>nn c (I.freeC x c q),λp hp=>?_,λb u q=>?_,I.len⟩
 ·have:=I.base.tups b xs q
  rw[jew (ne b _ this λ_ z=>by cases z)];exact this
 ·have:=I.base.frzs b o u q
  rw[jew (ne b _ this λ_ z=>by cases z)];exact this
 ·obtain⟨more,e1⟩:=I.base.tbls b ps q
  exact⟨more,by rw[jew (ne b _ e1 λ_ z=>by cases z)];exact e1⟩
 ·obtain⟨e1,n,r⟩:=I.pin p hp
  exact⟨e1,nn _ n,r⟩
 ·have hb:b≠a:=λz=>by rw[z,jg7]at q;cases q
  rw[jew hb]at q
  exact(I.hok b u q).stay (λ_ _ _ z=>z) (λc z=>by rw[jew (ne c _ z λ_ r=>by cases r)];exact z) λc xs z=>by rw[jew (ne c _ z λ_ r=>by cases r)];exact z
def jc8(K:PySem.W.Frag)(H₀:Hp)(E:XK)(te:TE):TS:=λD σ H=>te σ H λv H1=>∃a C D' N dx,v=.ref a/\H1 a=some (ExO a C dx)/\XC K C D' N/\H₀ a=none/\E (.ref C) dx (je3 H1 a)
theorem ps_raise{e:Expr}{te:TE}{pos:Pos}{E:XK}(hc:X.calm=true)(hx:X.ex=[])(l:Leaves X E)(he:PE X e te):PS X (.Raise (some e) none pos) (jc8 X.K X.H₀ E te):=by
 intro pins s σ H En I h
 rw[arm_exec_Raise]
 refine Ac (Uq ?_)
 show wpAny _ _ (raiseStmt X.env (some (do let v <-eval e X.env;standAt pos;pure v)) none) _ _ s
 unfold raiseStmt
 refine Ac (Ac (thn (he pins s σ H _ I h) λv s1 ⟨x,H1,I1,rx,a,C,D',N,dx,ex,ea,c,n0,q⟩=>Ac (Uq (A5 ?_))))
 subst ex
 obtain rfl:v=Value.ref a:=rx
 obtain⟨nm,qn,bs,sn,sub,ab,col,dd,k0,k1,k2,k3,k5,lk⟩:=c.sh
 have hC:=I1.kIn _ _ lk
 obtain⟨⟨t0,eo⟩,_,_⟩:=(show ObjOk X.prog X.w H1 s1.heap a (ExO a C dx)from I1.hok a _ ea)
 have hh:=I1.ok.hd hc
 have I2:=I1.dropX ea
 have nloc:∀b,H1 b=none->b≠a:=λb n z=>by subst z;rw[ea]at n;cases n
 have own:Own X pins (je3 H1 a) a:=by
  refine⟨?_,jg7,O3 (nloc _ I1.free),λx c e=>nloc c (I1.freeC x c e),λp hp=>nloc _ (I1.pin p hp).2.1,λhb=>nloc a (I1.stkFree a hb) rfl⟩
  cases e1:X.s₀.heap.get? a with
  |none=>rfl
  |some o =>
   have:=I1.base.free a o e1 n0 (by rw[hx];simp)
   rw[ea]at this;cases this
 have hE:X.xe (.ref a) s1:=l pins σ (je3 H1 a) s1 a C dx none I2 ⟨own,_,_,eo,rfl⟩ (.inl rfl) q
 have inB:(Value.ref C::.ref D'::bmVE).contains (.type "BaseException")=true:=by simp
 obtain⟨hp,g,d,tk,os⟩:=s1
 repeat (first|with_reducible refine On eo ?_|with_reducible refine On hC ?_|(with_reducible refine Uy hC ?_;rw[inB])|wp_step)
 exact wpAny_raiseNew_none hh hE
end
def excW(a C:Addr)(dx:Option Addr)(h:Heap):Prop:=∃vs sl,h.get? a=some ⟨.ref C,dx,.fields vs,sl⟩
def ExW(a C:Addr)(dx:Option Addr):HO:=.ext (excW a C dx)
theorem joc{P:Program}{w:World}{H:Hp}{h:Heap}{a C:Addr}{dx:Option Addr}{vs:Array Value}{sl:Array (Option Value)}(e:h.get? a=some ⟨.ref C,dx,.fields vs,sl⟩):ObjOk P w H h a (ExW a C dx) :=
 ⟨⟨vs,sl,e⟩,⟨_,e⟩,λh1 h2 ⟨v,l,e1⟩ k=>⟨v,l,k _ e1⟩⟩
section
variable{X:Cx}{pins:List (Addr×Obj)}{σ:St}{H H':Hp}{s:Shared}{a C D N:Addr}{dx:Option Addr}{A':Around}
theorem Inv.track(I:Inv X pins σ H s)(o:Own X pins H a){vs:Array Value}{sl:Array (Option Value)}(e:s.heap.get? a=some ⟨.ref C,dx,.fields vs,sl⟩):Inv X pins σ (upd H a (ExW a C dx)) s:=by
 have nn:∀b,b≠a->H b=none->upd H a (ExW a C dx) b=none:=λb h n=>by rw[jd h];exact n
 have tr:∀b u,H b=some u->upd H a (ExW a C dx) b=some u:=λb u q=>by rw[jd (jf q o.free)];exact q
 refine⟨I.ok,I.os,I.bare,⟨I.base.keep,I.base.slot,λb ob q n hx=>nn b (λz=>by subst z;rw[o.new]at q;cases q) (I.base.free b ob q n hx),I.base.there,λb xs q=>tr _ _ (I.base.tups b xs q),λb ob u q=>tr _ _ (I.base.frzs b ob u q),λb ps q=>?_⟩,I.loc,I.cell,nn _ (O3 o.loc) I.free,λx c q=>nn c (o.cell x c q) (I.freeC x c q),λp hp=>?_,λb u q=>?_,I.len⟩
 ·obtain⟨more,e1⟩:=I.base.tbls b ps q
  exact⟨more,tr _ _ e1⟩
 ·obtain⟨e1,n,r⟩:=I.pin p hp
  exact⟨e1,nn _ (o.pin p hp) n,r⟩
 ·by_cases hb:b=a
  ·subst hb
   rw[jb]at q
   cases q
   exact joc e
  ·rw[jd hb]at q
   exact(I.hok b u q).stay (λ_ _ _ z=>z) (λc z=>tr _ _ z) λc xs z=>tr _ _ z
abbrev Cx.late(X:Cx)(A':Around):Cx:={X with A:=A',calm:=false}
theorem Cx.Ok.late(ok:X.Ok)(hA:A'.frames=X.A.frames):(X.late A').Ok :=
 ⟨ok.mod,ok.kind,ok.glob,ok.blt,ok.above,ok.inj,ok.has,ok.cab,λz=>(nomatch z),hA.trans ok.frames,ok.stk,ok.exf,ok.bs,ok.bsz,ok.noex,ok.exfs,ok.funs,ok.frf⟩
theorem Inv.late(I:Inv X pins σ H s)(hA:A'.frames=X.A.frames):Inv (X.late A') pins σ H s:=⟨I.ok.late hA,I.os,I.bare,I.base,I.loc,I.cell,I.free,I.freeC,I.pin,I.hok,I.len⟩
theorem Inv.unlate(ok:X.Ok)(I:Inv (X.late A') pins σ H s):Inv X pins σ H s:=⟨ok,I.os,I.bare,I.base,I.loc,I.cell,I.free,I.freeC,I.pin,I.hok,I.len⟩
def XT(K:PySem.W.Frag)(T:Addr):Prop:=∃nm q N bs bm hd sn sub ab col dd k0 k1 k2 k3 k5 nid,K.lookup T=some (excClassObj nm q T N bs bm hd sn sub ab col dd k0 k1 k2 k3 k5 nid)/\bm.contains (.type "BaseException")=true
def hdl(K:PySem.W.Frag)(T:Addr)(j:Nat)(ts:TS)(En:Ends)(σ:St):XK:=λc dx H=>∃C D N,c=.ref C/\XC K C D N/\(T=D\/T=C) /\
 ∀a,H a=none->ts {nx:=λσ' H'=>En.nx (σ'.set j none) H',rt:=En.rt} (σ.set j (some (.ref a))) (upd H a (ExW a C dx))
theorem Inv.goes{E:Value->Shared->Prop}{M:Model}{A:Around}{j:Nat}{n:Str}{pos:Pos}{Q:Unit->Shared->Prop}(I:Inv X pins σ H s)(hN:X.N.Nodup)(hj:X.N[j]?=some n)(hl:X.env.scope.names.lookup n=some .local)
  (q:∀s',Inv X pins (σ.set j none) H s'->Q () s'):wpAny M A (do bindName X.env n .none;unbindBehindTheSuite X.env n pos) Q E s:=by
 obtain⟨m,hn,hlk⟩:=I.loc
 refine wpAny_nameGoes_keeps hl hn (by rw[I.ok.kind];rfl) λh' v hn' hs=>q _ ?_
 have oth:∀b,b≠X.env.locals->h'.get? b=s.heap.get? b:=λb hb=>hs.2 b hb
 have old:∀b o,X.s₀.heap.get? b=some o->b≠X.env.locals:=λb o e=>Ip (Ig (A6 e) I.ok.above)
 refine⟨I.ok,I.os,I.bare,⟨λb o e n' hb hx=>(oth b (old b o e)).trans (I.base.keep b o e n' hb hx),λb o e n' hb hx=>?_,I.base.free,λb o e hx=>?_,I.base.tups,I.base.frzs,I.base.tbls⟩,⟨_,hn',λi x u e1 e2 e3=>?_⟩,λx c e=>?_,I.free,I.freeC,λp hp=>?_,λb u e=>?_,by simpa using I.len⟩
 ·obtain⟨sl,z⟩:=I.base.slot b o e n' hb hx
  exact⟨sl,(oth b (old b o e)).trans z⟩
 ·obtain⟨o',z⟩:=I.base.there b o e hx
  exact⟨o',(oth b (old b o e)).trans z⟩
 ·have hij:i≠j:=λz=>by
   subst z
   rw[Wv]at e2
   simp at e2
  rw[W6 (O3 hij)]at e2
  obtain⟨u',r,l⟩:=hlk i x u e1 e2 e3
  refine⟨u',r,?_⟩
  rcases l with⟨k,z⟩|⟨k,c,e,z⟩
  ·refine .inl ⟨k,?_⟩
   have:x≠n:=λz=>hij (jgp hN e1 (z▸hj))
   simp[this,z]
  ·exact .inr ⟨k,c,e,z.sameBut hs (I.cne x c e)⟩
 ·obtain⟨w',z⟩:=I.cell x c e
  exact⟨w',z.sameBut hs (I.cne x c e)⟩
 ·obtain⟨e,n',ne,nf,d⟩:=I.pin p hp
  exact⟨(oth p.1 ne).trans e,n',ne,nf,d⟩
 ·refine(I.hok b u e).stay (λc v hc z=>(oth c ?_).trans z) (λ_ z=>z) λ_ _ z=>z
  rintro rfl
  rcases hc with rfl|hc
  ·rw[I.free]at e;cases e
  ·rw[I.free]at hc;cases hc
theorem jmx{T:Addr}{j:Nat}{n tn:Str}{p5 p6 p7:Pos}{body suite:List Stmt}{b₀:Stmt}{ts:TS}{En:Ends}{σ₀:St}(hs:X.stack=X.env::X.outer/\X.env.frame=some X.env.locals)(hx:X.ex=[])(hxe:∀e s,¬X.xe e s)(hN:X.N.Nodup)(hj:X.N[j]?=some n)(hl:X.env.scope.names.lookup n=some .local)
  (xt:XT X.K T) (hg:Gl X tn) (hm:X.mg tn=some (.ref T)) (hd:(tn == ("__debug__":Str))=false) (hst:∀A',A'.frames=X.A.frames->A'.depth=X.A.depth->A'.units=X.A.units->A'.guards=X.A.guards->PSs (X.late A') (b₀::suite) ts) (I:Inv X pins σ₀ H s)
  (hb:wpAny (model X.prog X.w) X.A (execs body X.env) (SP X pins En) (λe s'=>∃a C dx H' σ,e=.ref a/\Inv X pins σ H' s'/\FlS X pins H' s'.heap a C dx (some .none)/\hdl X.K T j ts En σ (.ref C) dx H') s) :
  wpAny (model X.prog X.w) X.A (exec (.Try body [.ExceptHandler (some (.Name tn p5)) (some n) (b₀::suite) p6] [] [] p7) X.env) (SP X pins En) X.xe s:=by
 refine wpAny_Try_except (Ol hb (λf s1 q=>?_) λe s1 ⟨a,C,dx,H1,σ,ee,I1,f1,C',D,N,ec,c,ht,q⟩=>?_)
 ·cases f with
  |next=>exact O6 q
  |ret v=>exact q
  |brk=>exact q
  |cont=>exact q
 subst ee
 cases ec
 refine jkj I1 rfl hs hx f1 (.inr rfl) λs2 I2 f2=>land I2 f2 λs3 I3 f3=>?_
 have fr:∀h:Option Value,(X.A.mark h).frames=X.A.frames:=λh=>rfl
 have I3':=I3.late (A':=X.A.mark (some (.ref a))) (fr _)
 refine wpAny_handleBy_cons (codeAny_handlers_test (je9 (X:=X.late (X.A.mark (some (.ref a)))) I3' hg hm ?_ hd)) (by intro z;cases z)
 obtain⟨nm,qn,bs,sn,sub,ab,col,dd,k0,k1,k2,k3,k5,lk⟩:=c.sh
 obtain⟨nm',q',N',bs',bm',hd',sn',sub',ab',col',dd',j0,j1,j2,j3,j5,nid',lkT,hbT⟩:=xt
 obtain⟨own,vs,sl,ea,r3⟩:=f3
 have hC:=I3.kIn _ _ lk
 have hT:=I3.kIn _ _ lkT
 have hin:(Value.ref C::.ref D::bmVE).contains (.ref T)=true:=by rcases ht with rfl|rfl <;> simp
 obtain⟨hh,g,d,tk,os⟩:=s3
 refine jjs hC hT ea rfl (by rw[Yg,hbT,Bool.or_true]) hin (codeAny_handlers_suite_as ?_)
 refine land I3 ⟨own,vs,sl,ea,r3⟩ λs4 I4 f4=>?_
 obtain⟨own4,vs4,sl4,ea4,r4⟩:=f4
 have I5:=(I4.track own4 ea4).late (A':=X.A.mark (some (.ref a))) (fr _)
 refine je2 (X:=X.late (X.A.mark (some (.ref a)))) I5 hN hj (.inl hl) (v:=.ref a) rfl (λs5 I6=>?_) (.inr hl)
 refine Ol (hst _ (fr _) rfl rfl rfl pins s5 _ _ _ I6 (q a own4.free)) (λf s6 z=>?_) λe s6 z=>absurd z (hxe e s6)
 show wpAny _ _ (do bindName X.env n .none;unbindBehindTheSuite X.env n p6) _ _ _
 cases f with
 |next =>
  obtain⟨σ',H',I7,q7⟩:=z
  exact(I7.unlate I.ok).goes hN hj hl λs7 I8=>⟨_,_,I8,q7⟩
 |ret v =>
  obtain⟨v',σ',H',I7,rv,q7⟩:=z
  exact(I7.unlate I.ok).goes hN hj hl λs7 I8=>⟨v',_,_,I8,rv,q7⟩
 |brk =>
  obtain⟨σ',H',I7,q7⟩:=z
  exact q7.elim
 |cont =>
  obtain⟨σ',H',I7,q7⟩:=z
  exact q7.elim
theorem jbp{k:Nat}{f:Addr}{fd:FuncData}{ps:List Str}{sp:Sp}{dvs:List V}{ds:List Value}{EK:XK}{x:Str}{p pos:Pos}{e:Expr}{es:List Expr}{t:TA}{Q:VK}{E':Value->Shared->Prop}(F:FnOk X.prog X.w X.K X.mg X.base (CXE X.prog X.w) k f fd ps sp)(hr:Room k X.A)(hg:Gl X x)(hm:X.mg x=some (.ref f))(hk:PySem.W.keepIn X.K (.ref f)=true)(hb:Binds X.K fd ps ds)(hd:Vals dvs ds)
  (ha:PA X (e::es) t) (hx:X.ex=[]) (hxe:∀e s,¬X.xe e s) (I:Inv X pins σ H s) (h:t σ H λvs H1=>sp (vs++dvs) H1 Q EK)
  (hE:∀a C dx H' s',Inv X pins σ H' s'->FlS X pins H' s'.heap a C dx (some .none)->EK (.ref C) dx H'->E' (.ref a) s')
  (hdb:(x == ("__debug__":Str))=false:=by decide) (he:starEach (e::es) X.env=(false,eval e X.env)::starEach es X.env:=by rfl) (hpl:(backTo pos (starEach es X.env)).any (·.1)=false:=by rfl) :
  wpAny (model X.prog X.w) X.A (eval (.Call (.Name x p) (e::es) [] pos) X.env) (EP X pins σ Q) E' s:=by
 refine Uc (je9 I hg hm ?_ hdb)
 refine Ye (h₀:=X.base) I.ok.mod.kin hk (Ol (ha pos pins s σ H _ I h) (λus s1 ⟨vs,H1,I1,r,q⟩=>⟨I1.kIn,?_⟩) λe s z=>absurd z (hxe e s)) he hpl
 have r2:Vals (vs++dvs) (us++ds):=r.append hd
 have hl:(us++ds).length=ps.length:=by rw[<-r2.length];exact F.len _ _ _ _ q
 refine wpAny_call (W8 (F.run X.A X.stack s1 H1 ⟨us,[]⟩ (us++ds) (vs++dvs) Q EK hr I1.env0 (hb s1 us I1.kIn hl) r2 q) λr s' hq=>?_)
 cases r with
 |error e =>
  obtain⟨a,C,dx,H',rfl,I',f',hE'⟩:=jm4 (H1:=H1) I1 rfl rfl hx hq
  exact hE a C dx H' s' I' f' hE'
 |ok fl =>
  cases fl with
  |ret u=>exact I1.after hq
  |next=>exact False.elim hq
  |brk=>exact False.elim hq
  |cont=>exact False.elim hq
end
section
variable{P:Program}{w:World}{K:PySem.W.Frag}{mg:Str->Option Value}{base:Heap}
theorem Fun.okE{x qual:Str}{st:Stmt}{f:Addr}{fd:FuncData}{N ps:List Str}{k:Nat}{sp:Sp}(F:Fun K x qual st f fd)(S:FnScope N ps (jh st))(len:∀vs H Q E,sp vs H Q E->vs.length=ps.length)
  (hbody:∀(cdv:Value)(A:Around)(outer:List Env)(s:Shared)(H:Hp)(vs:List V)(Q:VK)(E:XK),Room k (A.deeper (envOfC qual (jh st) s.heap.objs.size f cdv))->sp vs H Q E ->
   ∃t,PSs (cxOf (CXE P w) P w K mg base N qual (jh st) f cdv A outer s H E) (jt st) t/\t {nx:=λ_ H'=>Q .non H',rt:=Q} (start N vs) H):FnOk P w K mg base (CXE P w) (k+1) f fd ps sp:=by
 obtain⟨oc,od,kV,doc,pm,an,cdv,ct,osl,rfl,lk,hcd⟩:=F.ex
 exact jip lk hcd S len λA outer s H vs Q E hr hsp=>hbody cdv A outer s H vs Q E hr hsp
end
section
variable{X:Cx}
def ExAtW(H:Hp)(a C:Addr):Prop:=∃dx,H a=some (ExW a C dx)/\∀d,dx=some d->∃fs,H d=some (.xd fs)
theorem ExAtW.inst{pins:List (Addr×Obj)}{σ:St}{H:Hp}{s:Shared}{a C:Addr}(I:Inv X pins σ H s)(e:ExAtW H a C):∃o od,PySem.W.InstAt s.heap a o C od:=by
 obtain⟨dx,ea,ed⟩:=e
 obtain⟨⟨vs,sl,eo⟩,_,_⟩:=(show ObjOk X.prog X.w H s.heap a (ExW a C dx)from I.hok a _ ea)
 cases dx with
 |none=>exact⟨_,none,eo,rfl,rfl,True.intro⟩
 |some d =>
  obtain⟨fs,e⟩:=ed d rfl
  obtain⟨mA,⟨od,es,ep,h1,_⟩,_⟩:=(show ObjOk X.prog X.w H s.heap d (.xd fs)from I.hok d _ e)
  exact⟨_,some od,eo,rfl,rfl,h1⟩
def jkm(H:Hp)(c:Addr)(cs:List Addr):Prop:=H c=some (.tup (cs.map V.ref))
def rIsW(K:PySem.W.Frag):List V->Hp->VK->Prop:=λxs H Q=>match xs with
 |[.ref a,.ty n]=>∃C D N b,ExAtW H a C/\XC K C D N/\XI K C/\PySem.W.kitOne K (.ref C) (.type n)=some b/\Q (.bl b) H
 |[.ref a,.ref c]=>∃C D N b,ExAtW H a C/\XC K C D N/\XI K C/\(PySem.W.kitOne K (.ref C) (.ref c)=some b\/∃cs,jkm H c cs/\PySem.W.kitAny K (.ref C) (cs.map Value.ref)=some b)/\Q (.bl b) H
 |_=>False
theorem jc0(K:PySem.W.Frag)(a:Addr)(n:String)(H:Hp)(Q:VK):rIsW K [.ref a,.ty n] H Q=(∃C D N b,ExAtW H a C/\XC K C D N/\XI K C/\PySem.W.kitOne K (.ref C) (.type n)=some b/\Q (.bl b) H):=rfl
theorem jcl(K:PySem.W.Frag)(a c:Addr)(H:Hp)(Q:VK):rIsW K [.ref a,.ref c] H Q=(∃C D N b,ExAtW H a C/\XC K C D N/\XI K C/\(PySem.W.kitOne K (.ref C) (.ref c)=some b\/∃cs,jkm H c cs/\PySem.W.kitAny K (.ref C) (cs.map Value.ref)=some b)/\Q (.bl b) H):=rfl
theorem jil:∀{cs:List Addr}{us:List Value},Vals (cs.map V.ref) us->us=cs.map Value.ref
 |[],_,.nil=>rfl
 |c::cs,_,.cons r t=>by
  cases r
  rw[jil t]
  rfl
theorem jbk{K:PySem.W.Frag}(hK:X.K=K):jeb X (.builtin "isinstance") (rIsW K):=by
 subst hK
 intro pins s σ H xs us Q I r h
 unfold rIsW at h
 split at h
 ·rename_i a n
  obtain⟨C,D,N,b,ea,c,xi,e,q⟩:=h
  obtain⟨u,w',rfl,rx,rc⟩:=jiu r
  cases rx
  cases rc
  exact PySem.W.kia_one (jgl c xi) I.kIn (ea.inst I) e (λz=>nomatch z) λtk=>⟨.bl b,H,I.tok tk,rfl,q⟩
 ·rename_i a n
  obtain⟨C,D,N,b,ea,c,xi,e,q⟩:=h
  obtain⟨u,w',rfl,rx,rc⟩:=jiu r
  cases rx
  cases rc
  rcases e with e|⟨cs,et,e⟩
  ·exact PySem.W.kia_one (jgl c xi) I.kIn (ea.inst I) e (λz=>nomatch z) λtk=>⟨.bl b,H,I.tok tk,rfl,q⟩
  ·obtain⟨its,r1,p1,_⟩:=I.tuple (SqT.of et)
   obtain⟨⟨cl,dd,data,sl⟩,ho,hc,n',hd⟩:=id p1
   simp only at hc hd
   subst hc hd
   rw[jil r1]at ho
   exact PySem.W.kia_tup (jgl c xi) I.kIn (ea.inst I) ho e (λz=>nomatch z) λtk=>⟨.bl b,H,I.tok tk,rfl,q⟩
 ·exact h.elim
end
section
variable{X:Cx}
theorem jc3(K:PySem.W.Frag)(z:Str)(H:Hp):tyV K "str" (.str z) H=True:=by simp[tyV]
theorem qps_raise{e:Expr}{te:TE}{pos:Pos}{E:XK}{K:PySem.W.Frag}(hK:X.K=K)(hc:X.calm=true)(hx:X.ex=[])(l:Leaves X E)(he:QE X e te):QS X (.Raise (some e) none pos) (jc8 K X.H₀ E te):=by subst hK;exact⟨ps_raise hc hx l he.h⟩
end
section
variable{X:Cx}
def jo0:R2:=λx y H Q=>∃a b xs ys,x=.ref a/\y=.ref b/\H a=some (.tup xs)/\H b=some (.tup ys)/\xs.length+ys.length<=sizeLine/\∀p H',Kp [] H H'->H' p=some (.tup (xs++ys))->Q (.ref p) H'
theorem jao:OpR X (binaryOp .Add) jo0:=by
 intro pins s σ H x y v u Q I rx ry h
 obtain⟨a,b,xs,ys,rfl,rfl,ha,hb,hz,q⟩:=h
 by_cases hx:xs=[]
 ·subst hx
  cases rx
  cases ry
  obtain⟨its,r1,p1,_⟩:=I.tuple (SqT.of ha)
  obtain⟨its2,r2,p2,_⟩:=I.tuple (SqT.of hb)
  cases r1
  obtain⟨⟨cls,dd,data,sl⟩,ho,hc,n,hd⟩:=id p1
  obtain⟨⟨cls2,dd2,data2,sl2⟩,ho2,hc2,n2,hd2⟩:=id p2
  simp only at hc hd hc2 hd2
  subst hc hd hc2 hd2
  exact concat_meets ⟨_,ho,rfl⟩ ⟨_,ho2,rfl⟩ noFill_tuple_add seq_tuple_add Wy Wt (Wp _ _)
   (HT.tuple_add0 a b its2.toArray n n2 dd dd2 sl sl2) ⟨ho,ho2,.ref b,H,I,rfl,q b H (Kp.refl _ _) (by simpa using hb)⟩
 ·exact jbr pins s σ H _ _ v u Q I rx ry ⟨a,b,xs,ys,rfl,rfl,SqT.of ha,SqT.of hb,hx,hz,λe=>q a H (Kp.refl _ _) (by rw[e,Aq];exact ha),λe p hp=>q p _ ((Kp.refl [] H).new hp) jb⟩
end
section
variable{X:Cx}
theorem ja3{o i:Expr}{td ty:TE}{pos:Pos}(hu:X.A.units+1<cLine)(ho:QE X o td)(hi:QE X i ty)(hs:NoSl i):QE X (.Subscript o i pos) (jdx td ty):=⟨pe_dget hu ho.h hi.h hs⟩
end
def inK(k:List Int):List Key:=k.map Sum.inl
section
variable{prog:Program}{w:World}{A:Around}{E:Value->Shared->Prop}{s:Shared}
abbrev IsTK(prog:Program)(w:World)(h:Heap)(k:List Int)(b:Addr):Prop:=IsTupleKey (jd0 prog w) h (inK k) b
theorem jhc:∀{k:List Int}{us:List Value},ItemsAre (jd0 prog w) (inK k) us->∀v∈us,∃i t,v=.int i t
 |[],_,h,v,hv=>by cases h;cases hv
 |i::k,_,h,v,hv=>by
  cases h with
  |cons h1 h2 =>
   rcases Il.mp hv with rfl|hv
   ·have h1:je8 (.inl i) v=true:=h1
    obtain⟨t,e⟩:=Wu (k:=i) (v:=v) h1
    exact⟨_,t,e⟩
   ·exact jhc h2 v hv
end
section
variable{prog:Program}{w:World}{A:Around}{E:Value->Shared->Prop}{s:Shared}
variable{kf:Addr->List Int}{bd:Nat}{a:Addr}{led:Bool}{ks:List (List Int)}{o:Obj}{es:Array (Int×Value)}{ep:Nat}{t:SetTable}{L:List (Nat×(Int×Value))}
theorem jn3{h h':Heap}{k:List Int}{b:Addr}(x:IsTK prog w h k b)(e:∀o,h.get? b=some o->h'.get? b=some o):IsTK prog w h' k b:=by
 obtain⟨ob,items,n,ho,r⟩:=x
 exact⟨ob,items,n,e _ ho,r⟩
end
section
variable{N:Nat}{r:Array Nat}(hN:0<N)(hr:∀x∈r.toList,x<N)
include hN hr
omit hN hr in
end
section
variable{prog:Program}{w:World}{A:Around}{E:Value->Shared->Prop}{s:Shared}
def jgz(prog:Program)(w:World)(h:Heap)(bs:List Addr)(kf:Addr->List Int):Prop:=∀b∈bs,IsTK prog w h (kf b) b/\kf b≠[]
theorem jh7{h:Heap}{kf:Addr->List Int}:∀{bs:List Addr},jgz prog w h bs kf->∃fs,PySem.W.KatTups h (bs.map Value.ref) fs/\fs.length=bs.length/\∀v∈fs,∃i t,v=.int i t
 |[],_=>⟨[],trivial,rfl,by simp⟩
 |b::bs,ht=>by
  obtain⟨fs,h1,h2,h3⟩:=jh7 (bs:=bs) λc hc=>ht c (.tail _ hc)
  obtain⟨⟨o,items,n,ho,hc,hd,hi⟩,ne⟩:=ht b (.head _)
  obtain⟨i0,k,ek⟩:=List.exists_cons_of_ne_nil ne
  have il:=hi.length
  obtain⟨f,hf⟩:∃f,items[0]?=some f:=by
   have:0<items.size:=by rw[<-Array.length_toList,<-il,ek];simp[inK]
   exact⟨_,Us this⟩
  have fi:=jhc hi f (by rw[<-O1]at hf;exact Ay hf)
  refine⟨f::fs,PySem.W.KatTups.cons ho hc hd hf h1,by simp[h2],λv hv=>?_⟩
  rcases Il.mp hv with q|q
  ·rw[q];exact fi
  ·exact h3 v q
theorem jlt{h:Heap}{i:Int}{t:Tok}:PySem.W.Looks (model prog w) h (typeOf (.int i t)) (.type "int"):=PySem.W.Looks.of_pure rfl
end
section
variable{prog:Program}{w:World}{A:Around}{E:Value->Shared->Prop}{s:Shared}
theorem jlr{kf:Addr->List Int}{bs:List Addr}{Q:SortKind->Shared->Prop}(ht:jgz prog w s.heap bs kf)(h2:2<=bs.length)(h:Q (tuples' true) s):wpAny (model prog w) A (keyKind' (bs.map Value.ref).toArray) Q E s:=by
 obtain⟨fs,f1,f2,f3⟩:=jh7 ht
 refine PySem.W.kat_kind (T:=.type "int") f1 (by omega) (λv hv=>?_) (by decide) ?_
 ·obtain⟨i,t,rfl⟩:=f3 v hv
  exact jlt
 ·exact h
end
section
variable{X:Cx}{pins:List (Addr×Obj)}{σ:L2.St}{H:Hp}{s:Shared}
theorem jo5{P:Program}{w:World}{h:Heap}{k:List Int}{b:Addr}(ok:HOk P w H h)(e:H b=some (.tup (k.map V.int))):IsTK P w h k b:=by
 refine jfk ok ?_
 rw[e]
 unfold inK
 rw[Oq];rfl
theorem jkn:∀(bs:List Addr),Vals (bs.map V.ref) (bs.map Value.ref)
 |[]=>.nil
 |b::bs=>.cons rfl (jkn bs)
theorem jie:∀{bs:List Addr}{us:List Value},Vals (bs.map V.ref) us->us=bs.map Value.ref
 |[],_,.nil=>rfl
 |b::bs,_,.cons r rr=>by cases r;rw[jie rr];rfl
end
abbrev jnn:Bool->Keyed->Array Keyed->Nat->Nat->Nat->StateT SortSt Sem (Option Nat):=sortPriv% PySem.Builtin.gallop
abbrev jmq:Array Keyed->Array Keyed->StateT SortSt Sem (Array Keyed):=sortPriv% PySem.Builtin.mergeLo
abbrev jmp:Array Keyed->Array Keyed->StateT SortSt Sem (Array Keyed):=sortPriv% PySem.Builtin.mergeHi
structure Ord1(M:Model)(A:Around)(s:Shared)(κ:SortKind)(U:Keyed->Prop)(An:Keyed->Keyed->Bool->Prop)(Le:Keyed->Keyed->Prop):Prop where
 ask:∀x y (C:Bool->Shared->Prop),U x->U y->(∀b,An x y b->C b s)->wpAny M A (keyLt' κ x.1 y.1) C (λ_ _=>False) s
 tt:∀x y,An x y true->Le x y
 ff:∀x y,An x y false->Le y x
 rf:∀x,Le x x
 tr:∀x y z,Le x y->Le y z->Le x z
section
variable{M:Model}{A:Around}{E:Value->Shared->Prop}{s:Shared}{κ:SortKind}{U:Keyed->Prop}{An:Keyed->Keyed->Bool->Prop}{Le:Keyed->Keyed->Prop}
def Kd(κ:SortKind)(st:SortSt):Prop:=kindOf st=κ/\failedOf st=none
theorem jfn{x y:Keyed}{Q:Option Bool->SortSt->Prop}{st:SortSt}(O:Ord1 M A s κ U An Le)(k:Kd κ st)(hx:U x)(hy:U y)(h:∀b,An x y b->Q (some b) st):wpS M A E s (lt' x y) Q st:=by
 rw[lt'_eq]
 refine Ar (Ws ?_)
 refine Ar (Uv (Q:=λr st'=>∃b,r=.ok b/\An x y b/\st'=st) ?_ ?_)
 ·unfold wpS
  show wpAny _ _ ((StateT.lift _:StateT SortSt Sem _).run st) _ E s
  rw[StateT.run_lift,k.1]
  refine Ac (wpAny_attempt (Ol (O.ask x y (λb s'=>s'=s/\An x y b) hx hy λb h=>⟨rfl,h⟩) (λb s' hb=>?_) λ_ _ hF=>hF.elim))
  exact A5 ⟨hb.1,b,rfl,hb.2,rfl⟩
 ·rintro r st' ⟨b,rfl,hb,rfl⟩
  exact Av (h b hb)
theorem jdo{arr:Array Keyed}{i:Nat}{x:Keyed}{Q:Keyed->SortSt->Prop}{st:SortSt}(e:arr[i]?=some x)(h:Q x st):wpS M A E s (elem' arr i) Q st:=by
 rw[elem'_eq,e]
 exact Av h
theorem jdt{β:Type}{c:Prop}[Decidable c]{x y:StateT SortSt Sem β}{Q:β->SortSt->Prop}{st:SortSt}(h1:c->wpS M A E s x Q st)(h2:¬c->wpS M A E s y Q st):wpS M A E s (if c then x else y) Q st:=by
 by_cases h:c
 ·rw[Am h];exact h1 h
 ·rw[Ah h];exact h2 h
theorem jdz{β:Type}{m n:Nat}{x y:StateT SortSt Sem β}{Q:β->SortSt->Prop}{st:SortSt}(h1:m=n->wpS M A E s x Q st)(h2:¬m=n->wpS M A E s y Q st):wpS M A E s (if(m == n)=true then x else y) Q st :=
 jdt (λh=>h1 (by simpa using h)) λh=>h2 (by simpa using h)
theorem jen{β γ:Type}{a b:Nat}{f:Nat->β->StateT SortSt Sem (ForInStep β)}{k:β->StateT SortSt Sem γ}{R:γ->SortSt->Prop}(I:Nat->β->SortSt->Prop)(D:β->SortSt->Prop){c:β}{st:SortSt}(h:I a c st)
  (hs:∀i c st,a<=i->i<b->I i c st->∀Q:ForInStep β->SortSt->Prop,(∀c st',D c st'->Q (.done c) st')->(∀c st',I (i+1) c st'->Q (.yield c) st')->wpS M A E s (f i c) Q st)
  (he:∀c st,I (max a b) c st->D c st) (hk:∀c st,D c st->wpS M A E s (k c) R st):wpS M A E s (forIn [a:b] c f >>= k) R st :=
 Ar (Uv (Um I (λi c st h1 h2 h3=>hs i c st h1 h2 h3 _ (λ_ _ h=>h) λ_ _ h=>h) he h) hk)
end
section
variable{M:Model}{A:Around}{E:Value->Shared->Prop}{s:Shared}{κ:SortKind}{U:Keyed->Prop}{An:Keyed->Keyed->Bool->Prop}{Le:Keyed->Keyed->Prop}
structure Seg(U:Keyed->Prop)(Le:Keyed->Keyed->Prop)(arr:Array Keyed)(base n:Nat)(f:Nat->Keyed):Prop where
 at_:∀i,i<n->arr[base+i]?=some (f i)
 u:∀i,i<n->U (f i)
 up:∀i j,i<=j->j<n->Le (f i) (f j)
theorem jeu{left:Bool}{key:Keyed}{arr:Array Keyed}{base n hint:Nat}{f:Nat->Keyed}{Q:Option Nat->SortSt->Prop}{st:SortSt}(O:Ord1 M A s κ U An Le)(kd:Kd κ st)(hk:U key)(S:Seg U Le arr base n f)(hh:hint<n)
  (h:∀k,k<=n->(∀i,i<k->Le (f i) key)->(∀i,k<=i->i<n->Le key (f i))->Q (some k) st):wpS M A E s (jnn left key arr base n hint) Q st:=by
 have bey:∀(i:Nat)(Q':Option Bool->SortSt->Prop),i<n->(∀b,(b=true->Le (f i) key)->(b=false->Le key (f i))->Q' (some b) st)->wpS M A E s (elem' arr (base+i) >>= λx=>if left=true then lt' x key else lt' key x >>= λr=>pure (r.map (!·))) Q' st:=λi Q' hi q=>by
  refine Ar (jdo (S.at_ i hi) ?_)
  by_cases hl:left=true
  ·rw[Am hl]
   exact jfn O kd (S.u i hi) hk λb hb=>q b (λe=>O.tt _ _ (e▸hb)) (λe=>O.ff _ _ (e▸hb))
  ·rw[Ah hl]
   refine Ar (jfn O kd hk (S.u i hi) λb hb=>Av (q (!b) (λe=>O.ff _ _ (?_)) (λe=>O.tt _ _ ?_)))
   ·cases b
    ·exact hb
    ·cases e
   ·cases b
    ·cases e
    ·exact hb
 have low:∀j,j<n->Le (f j) key->∀i,i<=j->Le (f i) key:=λj hj h i hi=>O.tr _ _ _ (S.up i j hi hj) h
 have high:∀j,Le key (f j)->∀i,j<=i->i<n->Le key (f i):=λj h i hi hn=>O.tr _ _ _ h (S.up j i hi hn)
 refine Ar (bey hint _ hh λright hr1 hr2=>?_)
 dsimp only
 cases right
 case' true =>
  rw[Am rfl]
  have hr:=hr1 rfl
  refine Ar (Uv (Um (I:=λx c st'=>st=st'/\∃l o,c=(none,l,o)/\l<n-hint/\l<o/\Le (f (hint+l)) key/\x+1<=o)
   (Q:=λc st'=>st=st'/\∃l o,c=(none,l,o)/\l<n-hint/\l<o/\Le (f (hint+l)) key/\(n-hint<=o\/hint+o<n/\Le key (f (hint+o)))) ?_ ?_ ⟨rfl,0,1,rfl,by omega,by omega,hr,by omega⟩) ?_)
  ·rintro x c st' _ hx ⟨rfl,l,o,rfl,h1,h2,h3,h4⟩
   dsimp only
   by_cases c:o ≥ n-hint
   ·rw[Am c]
    exact Av ⟨rfl,l,o,rfl,h1,h2,h3,.inl c⟩
   ·rw[Ah c]
    refine Ar (bey (hint+o) _ (by omega) λb b1 b2=>?_)
    dsimp only
    cases b with
    |false=>exact Av ⟨rfl,l,o,rfl,h1,h2,h3,.inr ⟨by omega,b2 rfl⟩⟩
    |true=>exact Av ⟨rfl,o,2*o+1,rfl,by omega,by omega,b1 rfl,by omega⟩
  ·rintro c st' ⟨rfl,l,o,rfl,h1,h2,h3,h4⟩
   exact⟨rfl,l,o,rfl,h1,h2,h3,.inl (by omega)⟩
  rintro _ st' ⟨rfl,l,o,rfl,h1,h2,h3,h4⟩
  have F:hint+l+1<=hint+min o (n-hint)/\hint+min o (n-hint)<=n/\(∀i,i<hint+l+1->Le (f i) key)/\∀i,hint+min o (n-hint)<=i->i<n->Le key (f i):=by
   refine⟨by omega,by omega,λi hi=>low _ (by omega) h3 i (by omega),λi hi hn=>?_⟩
   rcases h4 with h4|⟨h4,h5⟩
   ·omega
   ·exact high _ h5 i (by omega) hn
  dsimp only
  generalize hint+l+1=lo at F⊢
  generalize hint+min o (n-hint)=hi at F⊢
 case' false =>
  rw[Ah (by simp)]
  have hr:=hr2 rfl
  refine Ar (Uv (Um (I:=λx c st'=>st=st'/\∃l o,c=(none,l,o)/\l<=hint/\l<o/\Le key (f (hint-l))/\x+1<=o)
   (Q:=λc st'=>st=st'/\∃l o,c=(none,l,o)/\l<=hint/\l<o/\Le key (f (hint-l))/\(hint+1<=o\/o<=hint/\Le (f (hint-o)) key)) ?_ ?_ ⟨rfl,0,1,rfl,by omega,by omega,hr,by omega⟩) ?_)
  ·rintro x c st' _ hx ⟨rfl,l,o,rfl,h1,h2,h3,h4⟩
   dsimp only
   by_cases c:o ≥ hint+1
   ·rw[Am c]
    exact Av ⟨rfl,l,o,rfl,h1,h2,h3,.inl c⟩
   ·rw[Ah c]
    refine Ar (bey (hint-o) _ (by omega) λb b1 b2=>?_)
    dsimp only
    cases b with
    |true=>exact Av ⟨rfl,l,o,rfl,h1,h2,h3,.inr ⟨by omega,b1 rfl⟩⟩
    |false=>exact Av ⟨rfl,o,2*o+1,rfl,by omega,by omega,b2 rfl,by omega⟩
  ·rintro c st' ⟨rfl,l,o,rfl,h1,h2,h3,h4⟩
   exact⟨rfl,l,o,rfl,h1,h2,h3,.inl (by omega)⟩
  rintro _ st' ⟨rfl,l,o,rfl,h1,h2,h3,h4⟩
  have F:hint+1-min o (hint+1)<=hint-l/\hint-l<=n/\(∀i,i<hint+1-min o (hint+1)->Le (f i) key)/\∀i,hint-l<=i->i<n->Le key (f i):=by
   refine⟨by omega,by omega,λi hi=>?_,high _ h3⟩
   rcases h4 with h4|⟨h4,h5⟩
   ·omega
   ·exact low _ (by omega) h5 i (by omega)
  dsimp only
  generalize hint+1-min o (hint+1)=lo at F⊢
  generalize hint-l=hi at F⊢
 all_goals
  obtain⟨F1,F2,F3,F4⟩:=F
  refine Ar (Uv (Um (I:=λx c st'=>st=st'/\∃lo hi,c=(none,lo,hi)/\lo<=hi/\hi<=n/\(∀i,i<lo->Le (f i) key)/\(∀i,hi<=i->i<n->Le key (f i))/\hi-lo<=n-x)
   (Q:=λc st'=>st=st'/\∃k,c=(none,k,k)/\k<=n/\(∀i,i<k->Le (f i) key)/\∀i,k<=i->i<n->Le key (f i)) ?_ ?_ ⟨rfl,lo,hi,rfl,F1,F2,F3,F4,by omega⟩) ?_)
  ·rintro x c st' _ hx ⟨rfl,lo,hi,rfl,h1,h2,h3,h4,h5⟩
   dsimp only
   by_cases c:lo ≥ hi
   ·rw[Am c]
    obtain rfl:lo=hi:=by omega
    exact Av ⟨rfl,lo,rfl,h2,h3,h4⟩
   ·rw[Ah c]
    refine Ar (bey (lo+(hi-lo) / 2) _ (by omega) λb b1 b2=>?_)
    dsimp only
    cases b with
    |true=>exact Av ⟨rfl,lo+(hi-lo) / 2+1,hi,rfl,by omega,h2,λi hi'=>low _ (by omega) (b1 rfl) i (by omega),h4,by omega⟩
    |false=>exact Av ⟨rfl,lo,lo+(hi-lo) / 2,rfl,by omega,by omega,h3,high _ (b2 rfl),by omega⟩
  ·rintro c st' ⟨rfl,lo,hi,rfl,h1,h2,h3,h4,h5⟩
   obtain rfl:lo=hi:=by omega
   exact⟨rfl,lo,rfl,h2,h3,h4⟩
  ·rintro _ st' ⟨rfl,k,rfl,h2,h3,h4⟩
   exact Av (h k h2 h3 h4)
end
structure Mrg(Le:Keyed->Keyed->Prop)(W o x y:List Keyed):Prop where
 pm:(o++x++y).Perm W
 so:o.Pairwise Le
 sx:x.Pairwise Le
 sy:y.Pairwise Le
 le:∀u∈o,∀v∈x++y,Le u v
theorem Mrg.x{Le:Keyed->Keyed->Prop}{W o x y:List Keyed}(h:Mrg Le W o x y)(k:Nat)(q:∀u∈x.take k,∀v∈y,Le u v):Mrg Le W (o++x.take k) (x.drop k) y:=by
 have e:=Ud k x
 have sx:=h.sx
 rw[<-e]at sx
 obtain⟨s1,s2,s3⟩:=Ie.mp sx
 refine⟨?_,?_,s2,h.sy,λu hu v hv=>?_⟩
 ·rw[A8 o,e];exact h.pm
 ·exact Ie.mpr ⟨h.so,s1,λu hu v hv=>h.le u hu v (Im _ (Ui hv))⟩
 ·rcases A0.mp hu with hu|hu
  ·exact h.le u hu v ((A0.mp hv).elim (λz=>Im _ (Oz z)) (A2 _))
  ·exact(A0.mp hv).elim (s3 u hu v) (q u hu v)
theorem Mrg.sw{Le:Keyed->Keyed->Prop}{W o x y:List Keyed}(h:Mrg Le W o x y):Mrg Le W o y x :=
 ⟨by
  have q:(o++y++x).Perm (o++x++y):=by rw[A8,A8];exact List.perm_append_comm.append_left o
  exact q.trans h.pm,h.so,h.sy,h.sx,λu hu v hv=>h.le u hu v ((A0.mp hv).elim (A2 _) (Im _))⟩
theorem Mrg.all{Le:Keyed->Keyed->Prop}{W o x y:List Keyed}(h:Mrg Le W o x y)(q:∀u∈x,∀v∈y,Le u v):(o++x++y).Perm W/\(o++x++y).Pairwise Le :=
 ⟨h.pm,by rw[A8];exact Ie.mpr ⟨h.so,Ie.mpr ⟨h.sx,h.sy,q⟩,h.le⟩⟩
theorem Mrg.px{Le:Keyed->Keyed->Prop}{W o x y:List Keyed}{u:Keyed}(h:Mrg Le W o (u::x) y)(q:∀v∈y,Le u v):Mrg Le W (o++[u]) x y:=by simpa using h.x 1 (by simpa using q)
theorem Mrg.py{Le:Keyed->Keyed->Prop}{W o x y:List Keyed}{u:Keyed}(h:Mrg Le W o x (u::y))(q:∀v∈x,Le u v):Mrg Le W (o++[u]) x y:=(h.sw.px q).sw
theorem jfi{a:Array Keyed}{i:Nat}(h:i<a.size):∃x,a[i]?=some x/\x∈a.toList/\a.toList.drop i=x::a.toList.drop (i+1) :=
 ⟨a[i],Us h,Array.getElem_mem_toList h,by rw[Wl (by simpa using h)];simp⟩
theorem jg9(a:Array Keyed)(i k:Nat):(a.extract i (i+k)).toList=(a.toList.drop i).take k:=by
 rw[Wc,List.extract_eq_drop_take];congr 1;omega
theorem jf8(a:Array Keyed)(i:Nat):(a.extract i a.size).toList=a.toList.drop i:=by
 rw[Wc,List.extract_eq_drop_take];exact Iy (by simp)
section
variable{M:Model}{A:Around}{E:Value->Shared->Prop}{s:Shared}{κ:SortKind}{U:Keyed->Prop}{An:Keyed->Keyed->Bool->Prop}{Le:Keyed->Keyed->Prop}
theorem jfj(O:Ord1 M A s κ U An Le){u v:Keyed}{x:List Keyed}(h:Le u v)(sx:(v::x).Pairwise Le):∀w∈v::x,Le u w:=λw hw=>by
 rcases Il.mp hw with rfl|hw
 ·exact h
 ·exact O.tr _ _ _ h ((U1.mp sx).1 w hw)
def fS(a:Array Keyed)(i j:Nat):Keyed:=(a.toList.drop i).getD j (Value.none,Value.none)
theorem jfs{a:Array Keyed}{i j:Nat}(h:i+j<a.size):(a.toList.drop i)[j]?=some (fS a i j)/\a[i+j]?=some (fS a i j):=by
 have hl:j<(a.toList.drop i).length:=by simp;omega
 have e:(a.toList.drop i)[j]?=some (fS a i j):=by unfold fS;rw[Ag,Ic hl];rfl
 refine⟨e,?_⟩
 rw[Ue]at e
 rw[<-e,O1]
theorem jhl(O:Ord1 M A s κ U An Le){a:Array Keyed}(ua:∀x∈a.toList,U x)(sa:a.toList.Pairwise Le)(i:Nat){n:Nat}(hn:i+n<=a.size):Seg U Le a i n (fS a i):=by
 refine⟨λj hj=>(jfs (by omega)).2,λj hj=>ua _ (Oz (Ay (jfs (i:=i) (j:=j) (by omega)).1)),λj k hjk hk=>?_⟩
 by_cases c:j=k
 ·subst c;exact O.rf _
 ·have sd:(a.toList.drop i).Pairwise Le:=sa.sublist (List.drop_sublist i _)
  have h1:=(jfs (a:=a) (i:=i) (j:=j) (by omega)).1
  have h2:=(jfs (a:=a) (i:=i) (j:=k) (by omega)).1
  obtain⟨l1,e1⟩:=Ab.mp h1
  obtain⟨l2,e2⟩:=Ab.mp h2
  have:=Wm.mp sd j k l1 l2 (by omega)
  rw[e1,e2]at this
  exact this
theorem jgk{a:Array Keyed}{i n k:Nat}{P:Keyed->Prop}(hn:i+n<=a.size)(hk:k<=n)(h:∀j,j<k->P (fS a i j)):∀u∈(a.toList.drop i).take k,P u:=λu hu=>by
 obtain⟨j,hj⟩:=Oa hu
 have hl:=(Ab.mp hj).1
 rw[Oi]at hl
 rw[O2 (by omega),(jfs (by omega)).1]at hj
 cases hj
 exact h j (by omega)
theorem ji6{a:Array Keyed}{i k:Nat}{P:Keyed->Prop}(h:∀j,k<=j->i+j<a.size->P (fS a i j)):∀u∈a.toList.drop (i+k),P u:=λu hu=>by
 obtain⟨j,hj⟩:=Oa hu
 have hl:=(Ab.mp hj).1
 rw[Ua,Array.length_toList]at hl
 rw[Ue,show i+k+j=i+(k+j)by omega,<-Ue,(jfs (by omega)).1]at hj
 cases hj
 exact h (k+j) (by omega) (by omega)
def Sm(st st':SortSt):Prop:=∃g,st'=SortSt.mk' (kindOf st) (arrOf st) (pendingOf st) g (failedOf st)
theorem Sm.rfl(st:SortSt):Sm st st:=⟨gallopOf st,by cases st;rfl⟩
theorem Sm.kd{st st':SortSt}(h:Sm st st')(k:Kd κ st):Kd κ st':=by obtain⟨g,rfl⟩:=h;exact k
theorem Sm.g{st st':SortSt}(h:Sm st st')(g:Nat):Sm st (SortSt.mk' (kindOf st') (arrOf st') (pendingOf st') g (failedOf st')):=by obtain⟨_,rfl⟩:=h;exact⟨g,by trivial⟩
theorem jk8{β:Type}{p:StateT SortSt Sem β}{Q:β->SortSt->Prop}{st st':SortSt}(s':Sm st st')(h:∀st4,Sm st st4->wpS M A E s p Q st4):wpS M A E s p Q st':=h _ s'
def Out(Le:Keyed->Keyed->Prop)(W:List Keyed)(r:Array Keyed):Prop:=r.toList.Perm W/\r.toList.Pairwise Le
def AtL(Le:Keyed->Keyed->Prop)(a b:Array Keyed)(W:List Keyed)(out:Array Keyed)(ia ib:Nat):Prop:=Mrg Le W out.toList (a.toList.drop ia) (b.toList.drop ib)/\ia+1<a.size/\ib<b.size
theorem jjx{a b:Array Keyed}{st:SortSt}{Q:Array Keyed->SortSt->Prop}(O:Ord1 M A s κ U An Le)(kd:Kd κ st)(ua:∀x∈a.toList,U x)(ub:∀x∈b.toList,U x)(sa:a.toList.Pairwise Le)(sb:b.toList.Pairwise Le)(a1:1<=a.size)(b1:1<=b.size)
  (pa:∀y,b[0]?=some y->∀x∈a.toList,Le y x) (pb:∀x,a[a.size-1]?=some x->∀y∈b.toList,Le y x) (h:∀r st',Sm st st'->Out Le (a.toList++b.toList) r->Q r st'):wpS M A E s (jmq a b) Q st:=by
 refine Ar (wpS_lift (Wr ⟨rfl,?_⟩))
 generalize hW:a.toList++b.toList=W at h
 have done:∀(out:Array Keyed)(ia ib:Nat),Mrg Le W out.toList (a.toList.drop ia) (b.toList.drop ib)->ia=a.size\/ib=b.size->Out Le W (out++a.extract ia++b.extract ib):=λout ia ib m e=>by
  have:=m.all λu hu v hv=>by
   rcases e with rfl|rfl
   ·rw[U2 (by simp)]at hu;cases hu
   ·rw[U2 (by simp)]at hv;cases hv
  unfold Out
  rw[Oc,Oc,jf8,jf8]
  exact this
 have last:∀(out:Array Keyed)(ia ib:Nat),Mrg Le W out.toList (a.toList.drop ia) (b.toList.drop ib)->ia+1=a.size->Out Le W (out++b.extract ib++a.extract ia):=λout ia ib m e=>by
  have:=m.sw.all λu hu v hv=>by
   obtain⟨x,e1,e2,e3⟩:=jfi (a:=a) (i:=ia) (by omega)
   rw[e3,e,U2 (by simp)]at hv
   cases Ai.mp hv
   exact pb v (by rw[<-e1];congr 1;omega) u (Oz hu)
  unfold Out
  rw[Oc,Oc,jf8,jf8]
  exact this
 obtain⟨y0,f1,f2,f3⟩:=jfi (a:=b) (i:=0) (by omega)
 have m0:Mrg Le W [y0] (a.toList.drop 0) (b.toList.drop 1):=by
  have:Mrg Le W [] (a.toList.drop 0) (b.toList.drop 0):=⟨by rw[<-hW];simp,.nil,sa,sb,λu hu=>by cases hu⟩
  rw[f3]at this
  simpa using this.py (pa y0 f1)
 refine Ar (jdo f1 (jdz (λc1=>Av (h _ _ (Sm.rfl st) (done _ 0 1 m0 (.inr c1)))) λc1=>jdz (λc2=>Av (h _ _ (Sm.rfl st) (last _ 0 1 m0 c2))) λc2=>Ar (Ws ?_)))
 refine jen (λx c st'=>Sm st st'/\∃out ia ib g,c=(none,out,ia,ib,g)/\AtL Le a b W out ia ib/\x+1<=ia+ib) (λc st'=>Sm st st'/\∃r t,c=(some r,t)/\Out Le W r) ⟨Sm.rfl st,_,0,1,_,rfl,⟨m0,by omega,by omega⟩,by omega⟩ ?_ ?_ ?_
 ·intro x c st1 _ hx q Q qd qy
  obtain⟨s1,out,ia,ib,g,rfl,⟨m,i1,i2⟩,hc⟩:=q
  refine jen (λy c st'=>Sm st st'/\∃out ia ib p q,c=(none,out,ia,ib,p,q)/\AtL Le a b W out ia ib/\x+1+y<=ia+ib) (λc st'=>Sm st st'/\((∃r t,c=(some r,t)/\Out Le W r)\/∃out ia ib p q,c=(none,out,ia,ib,p,q)/\AtL Le a b W out ia ib/\x+2<=ia+ib)) ⟨s1,out,ia,ib,0,0,rfl,⟨m,i1,i2⟩,by omega⟩ ?_ ?_ ?_
  ·clear m i1 i2 hc qd qy
   intro y c st2 _ hy q Q qd qy
   obtain⟨s2,out,ia,ib,p,q,rfl,⟨m,i1,i2⟩,hc⟩:=q
   have hd:∀r t,Out Le W r->Q (.done (some r,t)) st2:=λr t b=>qd _ _ ⟨s2,.inl ⟨r,t,rfl,b⟩⟩
   have hn:∀out ia ib p q,AtL Le a b W out ia ib->x+2+y<=ia+ib->Q (.done (none,out,ia,ib,p,q)) st2/\Q (.yield (none,out,ia,ib,p,q)) st2:=λout ia ib p q m h=>⟨qd _ _ ⟨s2,.inr ⟨out,ia,ib,p,q,rfl,m,by omega⟩⟩,qy _ _ ⟨s2,out,ia,ib,p,q,rfl,m,by omega⟩⟩
   clear qd qy
   obtain⟨u,u1,u2,u3⟩:=jfi (a:=b) (i:=ib) (by omega)
   obtain⟨v,v1,v2,v3⟩:=jfi (a:=a) (i:=ia) (by omega)
   refine Ar (jdo u1 (Ar (jdo v1 (Ar (jfn O (s2.kd kd) (ub u u2) (ua v v2) λw hw=>jdt (λe=>?_) λe=>?_)))))
   ·subst e
    have m':Mrg Le W (out.push u).toList (a.toList.drop ia) (b.toList.drop (ib+1)):=by
     have sx:=m.sx
     rw[u3]at m
     rw[v3]at sx
     rw[O4]
     exact m.py (by rw[v3];exact jfj O (O.tt _ _ hw) sx)
    exact Ar (jdo u1 (jdz (λc=>Av (hd _ _ (done _ _ _ m' (.inr c)))) fun(c:¬ib+1=b.size)=>jdt (λ_=>Av (hn _ ia (ib+1) _ _ ⟨m',i1,by omega⟩ (by omega)).1) λ_=>Av (hn _ ia (ib+1) _ _ ⟨m',i1,by omega⟩ (by omega)).2))
   ·cases Uk.mpr e
    have m':Mrg Le W (out.push v).toList (a.toList.drop (ia+1)) (b.toList.drop ib):=by
     have sy:=m.sy
     rw[v3]at m
     rw[u3]at sy
     rw[O4]
     exact m.px (by rw[u3];exact jfj O (O.ff _ _ hw) sy)
    exact Ar (jdo v1 (jdz (λc=>Av (hd _ _ (last _ _ _ m' c))) fun(c:¬ia+1+1=a.size)=>jdt (λ_=>Av (hn _ (ia+1) ib _ _ ⟨m',by omega,i2⟩ (by omega)).1) λ_=>Av (hn _ (ia+1) ib _ _ ⟨m',by omega,i2⟩ (by omega)).2))
  ·rintro c st2 ⟨s2,out,ia,ib,p,q,rfl,⟨m,i1,i2⟩,hc⟩
   omega
  ·clear m i1 i2 hc
   intro c st2 q
   obtain⟨s2,hc|⟨out,ia,ib,p,q,rfl,⟨m,i1,i2⟩,hc⟩⟩:=q
   ·obtain⟨r,⟨o',a',b',p',q'⟩,rfl,hr⟩:=hc
    exact Av (qd _ _ ⟨s2,r,_,rfl,hr⟩)
   ·refine Ar (wpS_lift (Wr ⟨rfl,?_⟩))
    refine jen (λz c st'=>Sm st st'/\∃out ia ib g p q,c=(none,out,ia,ib,g,p,q)/\AtL Le a b W out ia ib/\x+2<=ia+ib) (λc st'=>Sm st st'/\((∃r t,c=(some r,t)/\Out Le W r)\/∃out ia ib g p q,c=(none,out,ia,ib,g,p,q)/\AtL Le a b W out ia ib/\x+2<=ia+ib)) ⟨s2,out,ia,ib,_,p,q,rfl,⟨m,i1,i2⟩,hc⟩ ?_ ?_ ?_
    ·clear m i1 i2 hc qd qy
     intro z c st3 _ hz q Q qd qy
     obtain⟨s3,out,ia,ib,g,p,q,rfl,⟨m,i1,i2⟩,hc⟩:=q
     have hd:∀r t st',Sm st st'->Out Le W r->Q (.done (some r,t)) st':=λr t st' s b=>qd _ _ ⟨s,.inl ⟨r,t,rfl,b⟩⟩
     have hn:∀out ia ib g p q st',Sm st st'->AtL Le a b W out ia ib->x+2<=ia+ib->Q (.done (none,out,ia,ib,g,p,q)) st'/\Q (.yield (none,out,ia,ib,g,p,q)) st':=λout ia ib g p q st' s m h=>⟨qd _ _ ⟨s,.inr ⟨out,ia,ib,g,p,q,rfl,m,h⟩⟩,qy _ _ ⟨s,out,ia,ib,g,p,q,rfl,m,h⟩⟩
     clear qd qy
     obtain⟨u,u1,u2,u3⟩:=jfi (a:=b) (i:=ib) (by omega)
     have S1:=jhl O ua sa ia (n:=a.size-ia) (by omega)
     extract_lets t1 t2 t3 t4 t5 t6 t7 t8 t9 ta tb tc jp td
     have hj:∀g',wpS M A E s (jp () g') Q st3:=by
      intro g'
      refine Ar (Ut ?_)
      refine jk8 (s3.g g') λst4 s4=>?_
      refine Ar (jdo u1 (Ar (jeu (base:=ia) (n:=a.size-ia) O (s4.kd kd) (ub u u2) S1 (by omega) λk k1 k2 k3=>?_)))
      dsimp -zeta only
      extract_lets ac jp2 o2 i2
      have mA:Mrg Le W (out++a.extract ia (ia+k)).toList (a.toList.drop (ia+k)) (b.toList.drop ib):=by
       have sy:=m.sy
       rw[u3]at sy
       have:=m.x k λu' hu' v hv=>O.tr _ _ _ (jgk (P:=λw=>Le w u) (n:=a.size-ia) (by omega) k1 k2 u' hu') (jfj O (O.rf u) sy v (u3▸hv))
       rw[List.drop_drop]at this
       rw[Oc,jg9]
       exact this
      have kA:∀w∈a.toList.drop (ia+k),Le u w:=ji6 λj hj hl=>k3 j hj (by omega)
      have hj2:∀out' ia',Mrg Le W out'.toList (a.toList.drop ia') (b.toList.drop ib)->(∀w∈a.toList.drop ia',Le u w)->ia'+1<a.size->x+2<=ia'+ib->wpS M A E s (jp2 () out' ia') Q st4:=by
       clear mA kA hc i1 m
       intro out' ia' mA kA iA iB
       have m6:Mrg Le W (out'.push u).toList (a.toList.drop ia') (b.toList.drop (ib+1)):=by
        rw[u3]at mA
        rw[O4]
        exact mA.py kA
       refine Ar (jdo u1 (jdz (λc=>Av (hd _ _ _ s4 (done _ _ _ m6 (.inr c)))) fun(c:¬ib+1=b.size)=>?_))
       obtain⟨v,v1,v2,v3⟩:=jfi (a:=a) (i:=ia') (by omega)
       have S2:=jhl O ub sb (ib+1) (n:=b.size-(ib+1)) (by omega)
       refine Ar (jdo v1 (Ar (jeu (base:=ib+1) (n:=b.size-(ib+1)) O (s4.kd kd) (ua v v2) S2 (by omega) λk' l1 l2 l3=>?_)))
       dsimp -zeta only
       extract_lets bc i4 jp3 o3 i3
       have m7:Mrg Le W (out'.push u++b.extract (ib+1) (ib+1+k')).toList (a.toList.drop ia') (b.toList.drop (ib+1+k')):=by
        have sx:=m6.sx
        rw[v3]at sx
        have:=(m6.sw.x k' λu' hu' w hw=>O.tr _ _ _ (jgk (P:=λw=>Le w v) (n:=b.size-(ib+1)) (by omega) l1 l2 u' hu') (jfj O (O.rf v) sx w (v3▸hw))).sw
        rw[List.drop_drop]at this
        rw[Oc,jg9]
        exact this
       have kB:∀w∈b.toList.drop (ib+1+k'),Le v w:=ji6 λj hj hl=>l3 j hj (by omega)
       have hj3:∀out2 ib2,Mrg Le W out2.toList (a.toList.drop ia') (b.toList.drop ib2)->(∀w∈b.toList.drop ib2,Le v w)->ib2<b.size->x+2<=ia'+ib2->wpS M A E s (jp3 () out2 ib2) Q st4:=by
        clear m7 kB m6 mA
        intro out2 ib2 m7 kB jA jB
        have m8:Mrg Le W (out2.push v).toList (a.toList.drop (ia'+1)) (b.toList.drop ib2):=by
         rw[v3]at m7
         rw[O4]
         exact m7.px kB
        exact Ar (jdo v1 (jdz (λc=>Av (hd _ _ _ s4 (last _ _ _ m8 c))) fun(d:¬ia'+1+1=a.size)=>have h':=λg p q=>hn _ (ia'+1) ib2 g p q _ s4 ⟨m8,by omega,jA⟩ (by omega);jdt (λ_=>Av (h' _ _ _).1) λ_=>Av (h' _ _ _).2))
       exact jdt (λck=>jdz (λc=>Av (hd _ _ _ s4 (done _ _ _ m7 (.inr c)))) fun(c':¬ib+1+k'=b.size)=>hj3 _ (ib+1+k') m7 kB (by omega) (by omega)) λck=>hj3 _ (ib+1) m6 (by rw[show k'=0 by omega]at kB;exact kB) (by omega) (by omega)
      exact jdt (λck=>jdz (λc=>Av (hd _ _ _ s4 (last _ _ _ mA c))) fun(c:¬ia+k+1=a.size)=>jdz (λc=>Av (hd _ _ _ s4 (done _ _ _ mA (.inl c)))) fun(c':¬ia+k=a.size)=>hj2 _ (ia+k) mA kA (by omega) (by omega)) λck=>hj2 out ia m (by rw[show k=0 by omega]at kA;exact kA) i1 hc
     exact jdt (λ_=>hj _) λ_=>hj _
    ·rintro c st3 ⟨s3,hI⟩
     exact⟨s3,.inr hI⟩
    ·intro c st3 q
     obtain⟨s3,hc|⟨out,ia,ib,g',p,q,rfl,at_,hc⟩⟩:=q
     ·obtain⟨r,⟨o',a',b',g',p',q'⟩,rfl,hr⟩:=hc
      exact Av (qd _ _ ⟨s3,r,_,rfl,hr⟩)
     ·exact Ar (Ut (Av (qy _ _ ⟨s3.g _,out,ia,ib,_,rfl,at_,by omega⟩)))
 ·rintro c st1 ⟨s1,out,ia,ib,g,rfl,⟨m,i1,i2⟩,hc⟩
  omega
 ·rintro c st1 ⟨s1,r,t,rfl,hr⟩
  exact Av (h r st1 s1 hr)
end
section
variable{M:Model}{A:Around}{E:Value->Shared->Prop}{s:Shared}{κ:SortKind}{U:Keyed->Prop}{An:Keyed->Keyed->Bool->Prop}{Le:Keyed->Keyed->Prop}
def Ge(Le:Keyed->Keyed->Prop)(x y:Keyed):Prop:=Le y x
def rT(a:Array Keyed)(n:Nat):List Keyed:=(a.toList.take n).reverse
theorem jf9{a:Array Keyed}{i:Nat}(h:i<a.size):∃x,a[i]?=some x/\x∈a.toList/\rT a (i+1)=x::rT a i :=
 ⟨a[i],Us h,Array.getElem_mem_toList h,by
  unfold rT
  rw[Ww,O1,Us h];simp⟩
theorem jl0{a:Array Keyed}{n:Nat}{x:Keyed}(h:x∈rT a n):x∈a.toList:=Ui (Oe.mp h)
theorem jf2{a:Array Keyed}{k n:Nat}(h:k<=n)(hn:n<=a.size):(rT a n).take (n-k)=(a.extract k n).reverse.toList/\(rT a n).drop (n-k)=rT a k:=by
 have e:a.toList.take n=a.toList.take k++(a.toList.drop k).take (n-k):=by
  rw[<-Ud k (a.toList.take n),List.take_take,Nat.min_eq_left h,List.drop_take]
 have l:((a.toList.drop k).take (n-k)).reverse.length=n-k:=by simp;omega
 unfold rT
 rw[e,List.reverse_append]
 refine⟨?_,?_⟩
 ·rw[Iz (by omega),Iy (by omega),Wd,Wc,List.extract_eq_drop_take]
 ·rw[List.drop_append,l,Nat.sub_self,U2 (by omega)];rfl
theorem jlz(a:Array Keyed):rT a a.size=a.toList.reverse:=by unfold rT;rw[Iy (by simp)]
theorem jhj(a:Array Keyed)(n:Nat):(a.extract 0 n).toList=(rT a n).reverse:=by unfold rT;rw[List.reverse_reverse,Wc,List.extract_eq_drop_take];simp
theorem jna{a:Array Keyed}(sa:a.toList.Pairwise Le)(n:Nat):(rT a n).Pairwise (Ge Le):=W4.mpr (sa.sublist (List.take_sublist n _))
theorem jlk{a:Array Keyed}{k n:Nat}{P:Keyed->Prop}(hn:n<=a.size)(h:∀j,j<k->j<n->P (fS a 0 j))(hk:k<=n):∀u∈rT a k,P u:=λu hu=>by
 have:=jgk (a:=a) (i:=0) (n:=n) (k:=k) (P:=P) (by omega) hk (λj hj=>h j hj (by omega)) u (by simpa[rT]using hu)
 exact this
theorem jj8{a:Array Keyed}{k n:Nat}{P:Keyed->Prop}(hk:k<=n)(hn:n<=a.size)(h:∀j,k<=j->j<n->P (fS a 0 j)):∀u∈(rT a n).take (n-k),P u:=λu hu=>by
 rw[(jf2 hk hn).1,Wd,Oe,show n=k+(n-k)by omega,jg9]at hu
 obtain⟨j,hj⟩:=Oa hu
 have hl:=(Ab.mp hj).1
 rw[Oi,Ua,Array.length_toList]at hl
 rw[O2 (by omega),Ue]at hj
 have:=(jfs (a:=a) (i:=0) (j:=k+j) (by omega)).1
 rw[List.drop_zero,hj]at this
 cases this
 exact h _ (by omega) (by omega)
def AtH(Le:Keyed->Keyed->Prop)(a b:Array Keyed)(W:List Keyed)(out:Array Keyed)(na nb:Nat):Prop:=Mrg (Ge Le) W out.toList (rT a na) (rT b nb)/\1<=na/\na<=a.size/\2<=nb/\nb<=b.size
theorem jjw{a b:Array Keyed}{st:SortSt}{Q:Array Keyed->SortSt->Prop}(O:Ord1 M A s κ U An Le)(kd:Kd κ st)(ua:∀x∈a.toList,U x)(ub:∀x∈b.toList,U x)(sa:a.toList.Pairwise Le)(sb:b.toList.Pairwise Le)(a1:1<=a.size)(b1:1<=b.size)
  (pa:∀y,b[0]?=some y->∀x∈a.toList,Le y x) (pb:∀x,a[a.size-1]?=some x->∀y∈b.toList,Le y x) (h:∀r st',Sm st st'->Out Le (a.toList++b.toList) r->Q r st'):wpS M A E s (jmp a b) Q st:=by
 refine Ar (wpS_lift (Wr ⟨rfl,?_⟩))
 generalize hW:a.toList++b.toList=W at h
 have tr:∀x y z,Ge Le x y->Ge Le y z->Ge Le x z:=λx y z h1 h2=>O.tr _ _ _ h2 h1
 have hd:∀{u v:Keyed}{x:List Keyed},Ge Le u v->(v::x).Pairwise (Ge Le)->∀w∈v::x,Ge Le u w:=fun{u v x} h sx w hw=>by
  rcases Il.mp hw with rfl|hw
  ·exact h
  ·exact tr _ _ _ h ((U1.mp sx).1 w hw)
 have fin:∀(out X Y:List Keyed),out.Perm W/\out.Pairwise (Ge Le)->out.reverse.Perm W/\out.reverse.Pairwise Le:=λout _ _ h=>⟨(O0 out).trans h.1,W4.mpr h.2⟩
 have done:∀(out:Array Keyed)(na nb:Nat),Mrg (Ge Le) W out.toList (rT a na) (rT b nb)->na=0\/nb=0->Out Le W (a.extract 0 na++b.extract 0 nb++out.reverse):=λout na nb m e=>by
  have:=fin _ [] [] (m.sw.all λu hu v hv=>by
   rcases e with rfl|rfl
   ·cases hv
   ·cases hu)
  unfold Out
  rw[Oc,Oc,jhj,jhj,Wd]
  simpa using this
 have first:∀(out:Array Keyed)(na nb:Nat),Mrg (Ge Le) W out.toList (rT a na) (rT b nb)->nb=1->Out Le W (b.extract 0 nb++a.extract 0 na++out.reverse):=λout na nb m e=>by
  have:=fin _ [] [] (m.all λu hu v hv=>by
   subst e
   obtain⟨y,e1,e2,e3⟩:=jf9 (a:=b) (i:=0) (by omega)
   rw[e3]at hv
   cases Ai.mp hv
   exact pa v e1 u (jl0 hu))
  unfold Out
  rw[Oc,Oc,jhj,jhj,Wd]
  simpa using this
 obtain⟨x0,f1,f2,f3⟩:=jf9 (a:=a) (i:=a.size-1) (by omega)
 rw[show a.size-1+1=a.size by omega]at f3
 have m0:Mrg (Ge Le) W [x0] (rT a (a.size-1)) (rT b b.size):=by
  have:Mrg (Ge Le) W [] (rT a a.size) (rT b b.size):=⟨by rw[<-hW,List.nil_append,jlz,jlz];exact(O0 _).append (O0 _),.nil,jna sa _,jna sb _,λu hu=>by cases hu⟩
  rw[f3]at this
  simpa using this.px (λv hv=>pb x0 f1 v (jl0 hv))
 refine Ar (jdo f1 (jdz (λc1=>Av (h _ _ (Sm.rfl st) (done _ _ _ m0 (.inl c1)))) λc1=>jdz (λc2=>Av (h _ _ (Sm.rfl st) (first _ _ _ m0 c2))) λc2=>Ar (Ws ?_)))
 refine jen (λx c st'=>Sm st st'/\∃na nb out g,c=(none,na,nb,out,g)/\AtH Le a b W out na nb/\x+1+na+nb<=a.size+b.size) (λc st'=>Sm st st'/\∃r t,c=(some r,t)/\Out Le W r) ⟨Sm.rfl st,a.size-1,b.size,_,_,rfl,⟨m0,by omega,by omega,by omega,by omega⟩,by omega⟩ ?_ ?_ ?_
 ·intro x c st1 _ hx q Q qd qy
  obtain⟨s1,na,nb,out,g,rfl,mm,hc⟩:=q
  refine jen (λy c st'=>Sm st st'/\∃na nb out p q,c=(none,na,nb,out,p,q)/\AtH Le a b W out na nb/\x+1+y+na+nb<=a.size+b.size) (λc st'=>Sm st st'/\((∃r t,c=(some r,t)/\Out Le W r)\/∃na nb out p q,c=(none,na,nb,out,p,q)/\AtH Le a b W out na nb/\x+2+na+nb<=a.size+b.size)) ⟨s1,na,nb,out,0,0,rfl,mm,by omega⟩ ?_ ?_ ?_
  ·clear mm hc qd qy
   intro y c st2 _ hy q Q qd qy
   obtain⟨s2,na,nb,out,p,q,rfl,⟨m,i1,i2,i3,i4⟩,hc⟩:=q
   have hd':∀r t,Out Le W r->Q (.done (some r,t)) st2:=λr t b=>qd _ _ ⟨s2,.inl ⟨r,t,rfl,b⟩⟩
   have hn:∀out na nb p q,AtH Le a b W out na nb->x+2+y+na+nb<=a.size+b.size->Q (.done (none,na,nb,out,p,q)) st2/\Q (.yield (none,na,nb,out,p,q)) st2:=λout na nb p q m h=>⟨qd _ _ ⟨s2,.inr ⟨na,nb,out,p,q,rfl,m,by omega⟩⟩,qy _ _ ⟨s2,na,nb,out,p,q,rfl,m,by omega⟩⟩
   clear qd qy
   obtain⟨u,u1,u2,u3⟩:=jf9 (a:=b) (i:=nb-1) (by omega)
   obtain⟨v,v1,v2,v3⟩:=jf9 (a:=a) (i:=na-1) (by omega)
   rw[show nb-1+1=nb by omega]at u3
   rw[show na-1+1=na by omega]at v3
   refine Ar (jdo u1 (Ar (jdo v1 (Ar (jfn O (s2.kd kd) (ub u u2) (ua v v2) λw hw=>jdt (λe=>?_) λe=>?_)))))
   ·subst e
    have m':Mrg (Ge Le) W (out.push v).toList (rT a (na-1)) (rT b nb):=by
     have sy:=m.sy
     rw[v3]at m
     rw[u3]at sy
     rw[O4]
     exact m.px (by rw[u3];exact hd (O.tt _ _ hw) sy)
    exact Ar (jdo v1 (jdz (λc=>Av (hd' _ _ (done _ _ _ m' (.inl c)))) fun(c:¬na-1=0)=>have h':=λp q=>hn _ (na-1) nb p q ⟨m',by omega,by omega,i3,i4⟩ (by omega);jdt (λ_=>Av (h' _ _).1) λ_=>Av (h' _ _).2))
   ·cases Uk.mpr e
    have m':Mrg (Ge Le) W (out.push u).toList (rT a na) (rT b (nb-1)):=by
     have sx:=m.sx
     rw[u3]at m
     rw[v3]at sx
     rw[O4]
     exact m.py (by rw[v3];exact hd (O.ff _ _ hw) sx)
    exact Ar (jdo u1 (jdz (λc=>Av (hd' _ _ (first _ _ _ m' c))) fun(c:¬nb-1=1)=>have h':=λp q=>hn _ na (nb-1) p q ⟨m',i1,i2,by omega,by omega⟩ (by omega);jdt (λ_=>Av (h' _ _).1) λ_=>Av (h' _ _).2))
  ·rintro c st2 ⟨s2,na,nb,out,p,q,rfl,⟨m,i1,i2,i3,i4⟩,hc⟩
   omega
  ·clear mm hc
   intro c st2 q
   obtain⟨s2,hc|⟨na,nb,out,p,q,rfl,mm,hc⟩⟩:=q
   ·obtain⟨r,⟨o',a',b',p',q'⟩,rfl,hr⟩:=hc
    exact Av (qd _ _ ⟨s2,r,_,rfl,hr⟩)
   ·refine Ar (wpS_lift (Wr ⟨rfl,?_⟩))
    refine jen (λz c st'=>Sm st st'/\∃na nb out g p q,c=(none,na,nb,out,g,p,q)/\AtH Le a b W out na nb/\x+2+na+nb<=a.size+b.size) (λc st'=>Sm st st'/\((∃r t,c=(some r,t)/\Out Le W r)\/∃na nb out g p q,c=(none,na,nb,out,g,p,q)/\AtH Le a b W out na nb/\x+2+na+nb<=a.size+b.size)) ⟨s2,na,nb,out,_,p,q,rfl,mm,hc⟩ ?_ ?_ ?_
    ·clear mm hc qd qy
     intro z c st3 _ hz q Q qd qy
     obtain⟨s3,na,nb,out,g,p,q,rfl,⟨m,i1,i2,i3,i4⟩,hc⟩:=q
     have hd':∀r t st',Sm st st'->Out Le W r->Q (.done (some r,t)) st':=λr t st' s b=>qd _ _ ⟨s,.inl ⟨r,t,rfl,b⟩⟩
     have hn:∀out na nb g p q st',Sm st st'->AtH Le a b W out na nb->x+2+na+nb<=a.size+b.size->Q (.done (none,na,nb,out,g,p,q)) st'/\Q (.yield (none,na,nb,out,g,p,q)) st':=λout na nb g p q st' s m h=>⟨qd _ _ ⟨s,.inr ⟨na,nb,out,g,p,q,rfl,m,h⟩⟩,qy _ _ ⟨s,na,nb,out,g,p,q,rfl,m,h⟩⟩
     clear qd qy
     obtain⟨u,u1,u2,u3⟩:=jf9 (a:=b) (i:=nb-1) (by omega)
     rw[show nb-1+1=nb by omega]at u3
     have S1:=jhl O ua sa 0 (n:=na) (by omega)
     extract_lets t1 t2 t3 t4 t5 t6 t7 t8 t9 ta tb tc jp td
     have hj:∀g',wpS M A E s (jp () g') Q st3:=by
      intro g'
      refine Ar (Ut ?_)
      refine jk8 (s3.g g') λst4 s4=>?_
      refine Ar (jdo u1 (Ar (jeu (base:=0) (n:=na) (hint:=na-1) O (s4.kd kd) (ub u u2) S1 (by omega) λk k1 k2 k3=>?_)))
      dsimp -zeta only
      extract_lets e1 e2 jp2 e3 e4
      have mA:Mrg (Ge Le) W (out++(a.extract k na).reverse).toList (rT a k) (rT b nb):=by
       have sy:=m.sy
       rw[u3]at sy
       have:=m.x (na-k) λu' hu' v hv=>tr _ _ _ (jj8 (P:=λw=>Ge Le w u) k1 i2 k3 u' hu') (hd (O.rf u) sy v (u3▸hv))
       rw[(jf2 k1 i2).1,(jf2 k1 i2).2]at this
       rw[Oc]
       exact this
      have kA:∀w∈rT a k,Ge Le u w:=jlk (P:=λw=>Ge Le u w) i2 (λj hj _=>k2 j hj) k1
      have hj2:∀out' na',Mrg (Ge Le) W out'.toList (rT a na') (rT b nb)->(∀w∈rT a na',Ge Le u w)->1<=na'/\na'<=a.size->x+2+na'+nb<=a.size+b.size->wpS M A E s (jp2 () na' out') Q st4:=by
       clear mA kA hc i1 m
       intro out' na' mA kA iA iB
       have m6:Mrg (Ge Le) W (out'.push u).toList (rT a na') (rT b (nb-1)):=by
        rw[u3]at mA
        rw[O4]
        exact mA.py kA
       refine Ar (jdo u1 (jdz (λc=>Av (hd' _ _ _ s4 (first _ _ _ m6 c))) fun(c:¬nb-1=1)=>?_))
       obtain⟨v,v1,v2,v3⟩:=jf9 (a:=a) (i:=na'-1) (by omega)
       rw[show na'-1+1=na' by omega]at v3
       have S2:=jhl O ub sb 0 (n:=nb-1) (by omega)
       refine Ar (jdo v1 (Ar (jeu (base:=0) (n:=nb-1) (hint:=nb-1-1) O (s4.kd kd) (ua v v2) S2 (by omega) λk' l1 l2 l3=>?_)))
       dsimp -zeta only
       extract_lets e5 e6 e7 jp3 e8 e9
       have m7:Mrg (Ge Le) W (out'.push u++(b.extract k' (nb-1)).reverse).toList (rT a na') (rT b k'):=by
        have sx:=m6.sx
        rw[v3]at sx
        have:=(m6.sw.x (nb-1-k') λu' hu' w hw=>tr _ _ _ (jj8 (P:=λw=>Ge Le w v) l1 (by omega) l3 u' hu') (hd (O.rf v) sx w (v3▸hw))).sw
        rw[(jf2 l1 (by omega)).1,(jf2 l1 (by omega)).2]at this
        rw[Oc]
        exact this
       have kB:∀w∈rT b k',Ge Le v w:=jlk (P:=λw=>Ge Le v w) (n:=nb-1) (by omega) (λj hj _=>l2 j hj) l1
       have hj3:∀out2 nb2,Mrg (Ge Le) W out2.toList (rT a na') (rT b nb2)->(∀w∈rT b nb2,Ge Le v w)->2<=nb2/\nb2<=b.size->x+3+na'+nb2<=a.size+b.size->wpS M A E s (jp3 () nb2 out2) Q st4:=by
        clear m7 kB m6 mA
        intro out2 nb2 m7 kB jA jB
        have m8:Mrg (Ge Le) W (out2.push v).toList (rT a (na'-1)) (rT b nb2):=by
         rw[v3]at m7
         rw[O4]
         exact m7.px kB
        exact Ar (jdo v1 (jdz (λc=>Av (hd' _ _ _ s4 (done _ _ _ m8 (.inl c)))) fun(d:¬na'-1=0)=>have h':=λg p q=>hn _ (na'-1) nb2 g p q _ s4 ⟨m8,by omega,by omega,jA.1,jA.2⟩ (by omega);jdt (λ_=>Av (h' _ _ _).1) λ_=>Av (h' _ _ _).2))
       exact jdt (fun(ck:nb-1-k'>0)=>jdz (λc=>Av (hd' _ _ _ s4 (first _ _ _ m7 c))) fun(c':¬k'=1)=>jdz (λc=>Av (hd' _ _ _ s4 (done _ _ _ m7 (.inr c)))) fun(c2:¬k'=0)=>hj3 _ k' m7 kB (by omega) (by omega)) fun(ck:¬nb-1-k'>0)=>hj3 _ (nb-1) m6 (by rw[show k'=nb-1 by omega]at kB;exact kB) (by omega) (by omega)
      exact jdt (fun(ck:na-k>0)=>jdz (λc=>Av (hd' _ _ _ s4 (done _ _ _ mA (.inl c)))) fun(c:¬k=0)=>hj2 _ k mA kA (by omega) (by omega)) fun(ck:¬na-k>0)=>hj2 out na m (by rw[show k=na by omega]at kA;exact kA) ⟨i1,i2⟩ hc
     exact jdt (λ_=>hj _) λ_=>hj _
    ·rintro c st3 ⟨s3,hI⟩
     exact⟨s3,.inr hI⟩
    ·intro c st3 q
     obtain⟨s3,hc|⟨na,nb,out,g',p,q,rfl,at_,hc⟩⟩:=q
     ·obtain⟨r,⟨o',a',b',g',p',q'⟩,rfl,hr⟩:=hc
      exact Av (qd _ _ ⟨s3,r,_,rfl,hr⟩)
     ·exact Ar (Ut (Av (qy _ _ ⟨s3.g _,na,nb,out,_,rfl,at_,by omega⟩)))
 ·rintro c st1 ⟨s1,na,nb,out,g,rfl,⟨m,i1,i2,i3,i4⟩,hc⟩
  omega
 ·rintro c st1 ⟨s1,r,t,rfl,hr⟩
  exact Av (h r st1 s1 hr)
end
def sS(κ:SortKind)(pd:Array (Nat×Nat×Nat))(g:Nat)(l:List Keyed):SortSt:=SortSt.mk' κ l.toArray pd g none
theorem jii{α:Type}{xs:Array α}{l:List α}(h:∀k:Nat,xs[k]?=l[k]?):xs=l.toArray:=by
 apply Array.ext_getElem?
 intro k
 rw[h,Ob]
theorem get3(P R T:List Keyed)(k:Nat):(P++R++T)[k]?=if k<P.length then P[k]? else if k<P.length+R.length then R[k-P.length]? else T[k-P.length-R.length]?:=by
 rw[A8]
 by_cases c:k<P.length
 ·rw[Am c,A1 c]
 ·rw[Ah c,Ib (by omega)]
  by_cases d:k<P.length+R.length
  ·rw[Am d,A1 (by omega)]
  ·rw[Ah d,Ib (by omega)]
theorem jjt(P R T:List Keyed):mirror (P++R++T).toArray P.length (P.length+R.length) ((P.length+R.length-P.length) / 2)=(P++R.reverse++T).toArray:=by
 refine jii λk=>?_
 rw[getElem?_mirror_all (by simp),Ob,Ob,get3,get3,get3,List.length_reverse]
 by_cases c:k<P.length
 ·rw[Ah (by omega),Am c,Am c]
 by_cases d:k<P.length+R.length
 ·rw[Am ⟨by omega,d⟩,Ah (by omega),Am (by omega),Ah c,Am d,List.getElem?_reverse (by omega)]
  congr 1;omega
 ·rw[Ah (by omega),Ah c,Ah d,Ah c,Ah d]
theorem jjp(P R T:List Keyed)(x:Keyed):bubble (P++R++x::T).toArray (P.length+R.length) (P.length+R.length-P.length)=(P++(x::R)++T).toArray:=by
 refine jii λk=>?_
 rw[getElem?_bubble (by simp) _ (by omega),Ob,Ob,Ob,get3,get3,get3,get3,List.length_cons]
 by_cases c:k<P.length
 ·rw[Ah (by omega),Ah (by omega),Am c,Am c]
 by_cases c1:k=P.length
 ·rw[Am (by omega),Ah (by omega),Ah (by omega),Ah c,Am (by omega),c1]
  simp
 by_cases d:k<P.length+(R.length+1)
 ·rw[Ah (by omega),Am (by omega),Ah (by omega),Am (by omega),Ah c,Am d,show k-P.length=(k-1-P.length)+1 by omega,List.getElem?_cons_succ]
 ·rw[Ah (by omega),Ah (by omega),Ah c,Ah (by omega),Ah c,Ah d,show k-P.length-R.length=(k-P.length-(R.length+1))+1 by omega,List.getElem?_cons_succ]
section
variable{M:Model}{A:Around}{E:Value->Shared->Prop}{s:Shared}{κ:SortKind}{U:Keyed->Prop}{An:Keyed->Keyed->Bool->Prop}{Le:Keyed->Keyed->Prop}{pd:Array (Nat×Nat×Nat)}{g:Nat}
theorem joz(l:List Keyed):Kd κ (sS κ pd g l):=⟨rfl,rfl⟩
theorem jey{i j:Nat}{l:List Keyed}{x y:Keyed}{Q:Option Bool->SortSt->Prop}(O:Ord1 M A s κ U An Le)(hU:∀x∈l,U x)(hx:l[i]?=some x)(hy:l[j]?=some y)(h:∀b,An x y b->Q (some b) (sS κ pd g l)):wpS M A E s (ltAt' i j) Q (sS κ pd g l):=by
 rw[ltAt'_eq]
 refine Ar (Ws ?_)
 exact Ar (jdo (by show l.toArray[i]?=_;rw[Ob];exact hx) (Ar (jdo (by show l.toArray[j]?=_;rw[Ob];exact hy) (jfn O (joz l) (hU _ (Ay hx)) (hU _ (Ay hy)) h))))
theorem jgc{i j:Nat}{l P R T:List Keyed}{Q:Unit->SortSt->Prop}(e:l=P++R++T)(hi:i=P.length)(hj:j=P.length+R.length)(h:Q () (sS κ pd g (P++R.reverse++T))):wpS M A E s (reverseSlice' i j) Q (sS κ pd g l):=by
 subst e hi hj
 rw[reverseSlice'_eq]
 refine Ut ?_
 have e:setArr (sS κ pd g (P++R++T)) (mirror (arrOf (sS κ pd g (P++R++T))) P.length (P.length+R.length) ((P.length+R.length-P.length) / 2))=sS κ pd g (P++R.reverse++T):=by
  show SortSt.mk' κ (mirror (P++R++T).toArray _ _ _) pd g none=_
  rw[jjt];rfl
 rw[e];exact h
theorem jm3{i j:Nat}{l P R T:List Keyed}{x:Keyed}{Q:Unit->SortSt->Prop}(e:l=P++R++x::T)(hi:i=P.length+R.length)(hj:j=P.length)(h:Q () (sS κ pd g (P++(x::R)++T))):wpS M A E s (moveDown' i j) Q (sS κ pd g l):=by
 subst e hi hj
 rw[moveDown'_eq]
 refine Ut ?_
 have e:setArr (sS κ pd g (P++R++x::T)) (bubble (arrOf (sS κ pd g (P++R++x::T))) (P.length+R.length) (P.length+R.length-P.length))=sS κ pd g (P++(x::R)++T):=by
  show SortSt.mk' κ (bubble (P++R++x::T).toArray _ _) pd g none=_
  rw[jjp];rfl
 rw[e];exact h
theorem jm2{P S T:List Keyed}{lo n ok:Nat}{Q:Bool->SortSt->Prop}(O:Ord1 M A s κ U An Le)(hU:∀x∈P++S++T,U x)(hlo:lo=P.length)(hok:ok=S.length)(s1:1<=S.length)(hn:ok<=n)(hT:n<=S.length+T.length)(sS0:S.Pairwise Le)
  (h:∀S' T',S'.length=n->S'.Pairwise Le->(S'++T').Perm (S++T)->Q true (sS κ pd g (P++S'++T'))):wpS M A E s (binarySort' lo n ok) Q (sS κ pd g (P++S++T)):=by
 subst hlo hok
 refine Ar (Uv (Um (I:=λk c st'=>c=(none,())/\∃S' T',st'=sS κ pd g (P++S'++T')/\S'.length=k/\S'.Pairwise Le/\(S'++T').Perm (S++T))
  (Q:=λc st'=>c=(none,())/\∃S' T',st'=sS κ pd g (P++S'++T')/\S'.length=n/\S'.Pairwise Le/\(S'++T').Perm (S++T)) ?_ ?_ ⟨rfl,S,T,rfl,by omega,sS0,U8 _⟩) ?_)
 ·rintro k c st' hk1 hk2 ⟨rfl,S',T',rfl,hl,so,pm⟩
  have pl:=pm.length_eq
  rw[Ae,Ae]at pl
  obtain⟨x,T2,rfl⟩:∃x T2,T'=x::T2:=by
   cases T' with
   |nil=>simp at pl;omega
   |cons x T2=>exact⟨x,T2,rfl⟩
  have hU':∀y∈P++S'++x::T2,U y:=λy hy=>hU y (by
   rw[A8]at hy⊢
   rcases A0.mp hy with hy|hy
   ·exact Im _ hy
   ·exact A2 _ (pm.mem_iff.mp hy))
  have ex:(P++S'++x::T2)[P.length+k]?=some x:=by rw[Ib (by simp;omega)];simp[hl]
  dsimp only
  refine Ar (Uv (Um (I:=λy c st'=>sS κ pd g (P++S'++x::T2)=st'/\∃l r,c=(none,l,r)/\l<=r/\r<=k/\(∀i z,i<l->S'[i]?=some z->Le z x)/\(∀i z,r<=i->S'[i]?=some z->Le x z)/\r-l<=k-y)
   (Q:=λc st'=>sS κ pd g (P++S'++x::T2)=st'/\∃l,c=(none,l,l)/\l<=k/\(∀i z,i<l->S'[i]?=some z->Le z x)/\(∀i z,l<=i->S'[i]?=some z->Le x z)) ?_ ?_ ⟨rfl,0,k,rfl,by omega,by omega,λi z h=>by omega,λi z h e=>by have:=(Ab.mp e).1;omega,by omega⟩) ?_)
  ·rintro y c st2 _ hy ⟨rfl,l,r,rfl,h1,h2,h3,h4,h5⟩
   dsimp only
   by_cases c:l ≥ r
   ·rw[Am c]
    obtain rfl:l=r:=by omega
    exact Av ⟨rfl,l,rfl,h2,h3,h4⟩
   ·rw[Ah c]
    have em:S'[(l+r) / 2]?=some (S'[(l+r) / 2]'(by omega)):=Ic _
    generalize S'[(l+r) / 2]'(by omega)=w at em
    have sp:=Wm.mp so
    have lt:∀i j a b,i<j->S'[i]?=some a->S'[j]?=some b->Le a b:=λi j a b hij ha hb=>by
     obtain⟨l1,e1⟩:=Ab.mp ha
     obtain⟨l2,e2⟩:=Ab.mp hb
     have:=sp i j l1 l2 hij
     rw[e1,e2]at this;exact this
    refine Ar (jey O hU' ex (j:=P.length+(l+r) / 2) (y:=w) (by rw[A8,Ib (by omega),A1 (by omega),Nat.add_sub_cancel_left];exact em) λb hb=>?_)
    dsimp only
    cases b with
    |true =>
     refine Av ⟨rfl,l,(l+r) / 2,rfl,by omega,by omega,h3,λi z hi e=>?_,by omega⟩
     by_cases c:i=(l+r) / 2
     ·subst c;rw[em]at e;cases e;exact O.tt _ _ hb
     ·exact O.tr _ _ _ (O.tt _ _ hb) (lt _ i _ _ (by omega) em e)
    |false =>
     refine Av ⟨rfl,(l+r) / 2+1,r,rfl,by omega,by omega,λi z hi e=>?_,h4,by omega⟩
     by_cases c:i=(l+r) / 2
     ·subst c;rw[em]at e;cases e;exact O.ff _ _ hb
     ·exact O.tr _ _ _ (lt i _ _ _ (by omega) e em) (O.ff _ _ hb)
  ·rintro c st2 ⟨rfl,l,r,rfl,h1,h2,h3,h4,h5⟩
   obtain rfl:l=r:=by omega
   exact⟨rfl,l,rfl,h2,h3,h4⟩
  ·rintro c st2 ⟨rfl,l,rfl,h1,h2,h3⟩
   dsimp only
   have e:=Ud l S'
   have tl:(S'.take l).length=l:=by rw[Oi];omega
   have dl:(S'.drop l).length=k-l:=by rw[Ua];omega
   refine Ar (jm3 (P:=P++S'.take l) (R:=S'.drop l) (T:=T2) (x:=x) (by rw[A8 P (S'.take l),e]) (by simp;omega) (by simp;omega) ?_)
   refine Av ⟨rfl,S'.take l++x::S'.drop l,T2,by simp,by simp;omega,?_,?_⟩
   ·rw[<-e]at so
    obtain⟨q1,q2,q3⟩:=Ie.mp so
    refine Ie.mpr ⟨q1,U1.mpr ⟨λz hz=>?_,q2⟩,λa ha b hb=>?_⟩
    ·obtain⟨i,hi⟩:=Oa hz
     rw[Ue]at hi
     exact h3 _ z (by omega) hi
    ·rcases Il.mp hb with rfl|hb
     ·obtain⟨i,hi⟩:=Oa ha
      have hl:=(Ab.mp hi).1
      rw[O2 (by omega)]at hi
      exact h2 i a (by omega) hi
     ·exact q3 a ha b hb
   ·refine List.Perm.trans ?_ pm
    rw[A8,List.cons_append]
    refine(List.perm_middle).trans ?_
    rw[<-A8,e]
    exact List.perm_middle.symm
 ·rintro c st' ⟨rfl,S',T',rfl,hl,so,pm⟩
  exact⟨rfl,S',T',rfl,by omega,so,pm⟩
 ·rintro c st' ⟨rfl,S',T',rfl,hl,so,pm⟩
  exact Av (h S' T' hl so pm)
end
section
variable{M:Model}{A:Around}{E:Value->Shared->Prop}{s:Shared}{κ:SortKind}{U:Keyed->Prop}{An:Keyed->Keyed->Bool->Prop}{Le:Keyed->Keyed->Prop}{pd:Array (Nat×Nat×Nat)}{g:Nat}
theorem jg4(P S T:List Keyed)(z t:Keyed):(P++(S++[z])++t::T)[P.length+(S.length+1)]?=some t/\(P++(S++[z])++t::T)[P.length+(S.length+1)-1]?=some z:=by
 rw[get3,get3]
 refine⟨?_,?_⟩
 ·rw[Ah (by omega),Ah (by simp)]
  simp
 ·rw[Ah (by omega),Am (by simp),show P.length+(S.length+1)-1-P.length=S.length by omega]
  simp
theorem ji8{S:List Keyed}(h:1<=S.length):∃S0 z,S=S0++[z]:=by
 rcases Uf S with rfl|⟨S0,z,e⟩
 ·simp at h
 ·exact⟨S0,z,by rw[e,Ug]⟩
theorem jkh(O:Ord1 M A s κ U An Le){S:List Keyed}{z t:Keyed}(h:(S++[z]).Pairwise Le)(q:Le z t):(S++[z]++[t]).Pairwise Le:=by
 refine Ie.mpr ⟨h,by simp,λx hx y hy=>?_⟩
 cases Ai.mp hy
 rcases A0.mp hx with hx|hx
 ·exact O.tr _ _ _ ((Ie.mp h).2.2 x hx z (by simp)) q
 ·cases Ai.mp hx;exact q
theorem jk7{P T:List Keyed}{lo nrem:Nat}{Q:Option Nat->SortSt->Prop}(O:Ord1 M A s κ U An Le)(hU:∀x∈P++T,U x)(hlo:lo=P.length)(hn:nrem=T.length)(h1:1<=T.length)
  (h:∀S T',1<=S.length->S.Pairwise Le->(S++T').Perm T->Q (some S.length) (sS κ pd g (P++S++T'))):wpS M A E s (countRun' lo nrem) Q (sS κ pd g (P++T)):=by
 subst hlo hn
 have hUp:∀{S T':List Keyed},(S++T').Perm T->∀x∈P++S++T',U x:=λpm x hx=>hU x (by
  rw[A8]at hx
  rcases A0.mp hx with hx|hx
  ·exact Im _ hx
  ·exact A2 _ (pm.mem_iff.mp hx))
 obtain⟨y0,T0,eT⟩:∃y T0,T=y::T0:=by
  cases T with
  |nil=>simp at h1
  |cons y T0=>exact⟨y,T0,rfl⟩
 refine jen (λx c st'=>∃S z T',c=(none,S.length+1)/\st'=sS κ pd g (P++(S++[z])++T')/\S++[z]++T'=T/\(S++[z]).Pairwise Le/\x=S.length+1)
  (λc st'=>∃S z T',c=(none,S.length+1)/\st'=sS κ pd g (P++(S++[z])++T')/\S++[z]++T'=T/\(S++[z]).Pairwise Le/\(T'=[]\/∃t T2,T'=t::T2/\Le t z)) ⟨[],y0,T0,rfl,by rw[eT];simp,by rw[eT];rfl,by simp,rfl⟩ ?_ ?_ ?_
 ·intro x c st' hx1 hx2 q Q' qd qy
  obtain⟨S,z,T',rfl,rfl,e,so,rfl⟩:=q
  obtain⟨t,T2,rfl⟩:∃t T2,T'=t::T2:=by
   cases T' with
   |nil=>rw[<-e]at hx2;simp at hx2
   |cons t T2=>exact⟨t,T2,rfl⟩
  obtain⟨a1,a2⟩:=jg4 P S T2 z t
  refine Ar (jey O (hUp (by rw[e])) a1 a2 λb hb=>jdt (λc=>?_) λc=>?_)
  ·subst c
   exact Av (qd _ _ ⟨S,z,t::T2,rfl,rfl,e,so,.inr ⟨t,T2,rfl,O.tt _ _ hb⟩⟩)
  ·cases Uk.mpr c
   exact Av (qy _ _ ⟨S++[z],t,T2,by simp,by simp,by rw[<-e];simp,jkh O so (O.ff _ _ hb),by simp⟩)
 ·rintro c st' ⟨S,z,T',rfl,rfl,e,so,hx⟩
  refine⟨S,z,T',rfl,rfl,e,so,.inl ?_⟩
  have:=Uh List.length e
  simp at this
  exact Op.mp (by omega)
 intro c st' q
 obtain⟨S,z,T',rfl,rfl,e,so,hT⟩:=q
 have el:=Uh List.length e
 rw[Ae,Ae,List.length_singleton]at el
 refine jdz (λc1=>?_) fun(c1:¬S.length+1=T.length)=>?_
 ·have:=h (S++[z]) T' (by simp) so (by rw[e])
  rw[Ae,List.length_singleton]at this
  exact Av this
 obtain⟨t,T2,rfl,tz⟩:∃t T2,T'=t::T2/\Le t z:=by
  rcases hT with rfl|h
  ·simp at el;omega
  ·exact h
 have pe:(S++[z]++t::T2).Perm T:=by rw[e]
 have toz:∀x∈S++[z],Le x z:=λx hx=>by
  rcases A0.mp hx with hx|hx
  ·exact(Ie.mp so).2.2 x hx z (by simp)
  ·cases Ai.mp hx;exact O.rf _
 extract_lets n0 q0 jp
 have hj:∀S',(∀x∈S',∀y∈S',Le x y)->(∀x∈S',Le t x)->(S'++t::T2).Perm T->S'.length=S.length+1->wpS M A E s (jp ()) Q (sS κ pd g (P++S'++t::T2)):=by
  clear pe toz tz e so
  intro S' mu lt pS lS
  refine Ar (wpS_lift (Wr ⟨rfl,?_⟩))
  refine jen (λx c st'=>∃B R T' q,c=(none,x,q)/\st'=sS κ pd g (P++(B++R)++T')/\(B++R).Pairwise (Ge Le)/\R.length=q+1/\(∀x∈R,∀y∈R,Le x y)/\B.length+R.length=x/\(B++R++T').Perm T)
   (λc st'=>∃B R T' q n,c=(none,n,q)/\st'=sS κ pd g (P++(B++R)++T')/\(B++R).Pairwise (Ge Le)/\R.length=q+1/\(∀x∈R,∀y∈R,Le x y)/\B.length+R.length=n/\(B++R++T').Perm T) ⟨S',[t],T2,0,rfl,by simp,?_,rfl,λx hx y hy=>by cases Ai.mp hx;cases Ai.mp hy;exact O.rf _,(show S'.length+1=S.length+1+1 by rw[lS]),by simpa using pS⟩ ?_ ?_ ?_
  ·refine Ie.mpr ⟨Uw λa ha b hb=>mu b hb a ha,by simp,λa ha b hb=>?_⟩
   cases Ai.mp hb
   exact lt a ha
  ·intro x c st' hx1 hx2 q Q' qd qy
   obtain⟨B,R,T',q,rfl,rfl,so',rl,mu',bl,pm⟩:=q
   have pl:=pm.length_eq
   rw[Ae,Ae]at pl
   obtain⟨t',T3,rfl⟩:∃t T3,T'=t::T3:=by
    cases T' with
    |nil=>simp at pl;omega
    |cons t T3=>exact⟨t,T3,rfl⟩
   obtain⟨R0,z',rfl⟩:=ji8 (S:=R) (by omega)
   obtain⟨a1,a2⟩:=jg4 P (B++R0) T3 z' t'
   have ex:(B++R0).length+1=x:=by rw[<-bl];simp;omega
   rw[ex,A8 B]at a1 a2
   have dn:∀v∈B++(R0++[z']),Le z' v:=λv hv=>by
    rw[<-A8]at hv so'
    rcases A0.mp hv with hv|hv
    ·exact(Ie.mp so').2.2 v hv z' (by simp)
    ·cases Ai.mp hv;exact O.rf _
   refine Ar (jey O (hUp pm) a1 a2 λb hb=>jdt (λcb=>?_) λcb=>?_)
   ·subst cb
    have tz':=O.tt _ _ hb
    have sn:(B++(R0++[z']).reverse++[t']).Pairwise (Ge Le):=by
     refine Ie.mpr ⟨?_,by simp,λv hv w hw=>?_⟩
     ·obtain⟨p1,p2,p3⟩:=Ie.mp so'
      refine Ie.mpr ⟨p1,Uw λa ha b hb=>mu' b (Oe.mp hb) a (Oe.mp ha),λa ha b hb=>p3 a ha b (Oe.mp hb)⟩
     ·cases Ai.mp hw
      refine O.tr _ _ _ tz' (dn v ?_)
      exact(A0.mp hv).elim (Im _) λh=>A2 _ (Oe.mp h)
    have pn:(B++(R0++[z']).reverse++[t']++T3).Perm T:=by
     refine List.Perm.trans ?_ pm
     rw[A8 _ [t']]
     exact((O0 _).append_left B).append_right _
    have one:∀x∈[t'],∀y∈[t'],Le x y:=λx hx y hy=>by cases Ai.mp hx;cases Ai.mp hy;exact O.rf _
    refine jdt (fun(cq:q>0)=>?_) fun(cq:¬q>0)=>?_
    ·refine Ar (jgc (P:=P++B) (R:=R0++[z']) (T:=t'::T3) (by simp) (show P.length+x-(q+1)=(P++B).length by simp at rl bl⊢;omega) (show P.length+x=(P++B).length+(R0++[z']).length by simp at rl bl⊢;omega) ?_)
     exact Av (qy _ _ ⟨B++(R0++[z']).reverse,[t'],T3,0,rfl,by simp,sn,rfl,one,by simp at bl⊢;omega,pn⟩)
    ·obtain rfl:R0=[]:=Op.mp (by simp at rl;omega)
     exact Av (qy _ _ ⟨B++[z'],[t'],T3,0,rfl,by simp,by simpa using sn,rfl,one,by simp at bl⊢;omega,by simpa using pn⟩)
   ·cases Uk.mpr cb
    have zt:=O.ff _ _ hb
    refine Ar (jey O (hUp pm) a2 a1 λb' hb'=>jdt (λcb=>?_) λcb=>?_)
    ·exact Av (qd _ _ ⟨B,R0++[z'],t'::T3,q,x,rfl,rfl,so',rl,mu',bl,pm⟩)
    ·cases Uk.mpr cb
     have tz':=O.ff _ _ hb'
     have mz:∀v∈R0++[z'],Le v t'/\Le t' v:=λv hv=>⟨O.tr _ _ _ (mu' v hv z' (by simp)) zt,O.tr _ _ _ tz' (mu' z' (by simp) v hv)⟩
     refine Av (qy _ _ ⟨B,R0++[z']++[t'],T3,q+1,rfl,by simp,?_,by simp at rl⊢;omega,λv hv w hw=>?_,by simp at bl⊢;omega,by simpa using pm⟩)
     ·rw[<-A8]
      refine Ie.mpr ⟨so',by simp,λv hv w hw=>?_⟩
      cases Ai.mp hw
      exact O.tr _ _ _ tz' (dn v hv)
     ·rcases A0.mp hv with hv|hv
      ·rcases A0.mp hw with hw|hw
       ·exact mu' v hv w hw
       ·cases Ai.mp hw;exact(mz v hv).1
      ·cases Ai.mp hv
       rcases A0.mp hw with hw|hw
       ·exact(mz w hw).2
       ·cases Ai.mp hw;exact O.rf _
  ·rintro c st' ⟨B,R,T',q,rfl,rfl,so',rl,mu',bl,pm⟩
   exact⟨B,R,T',q,_,rfl,rfl,so',rl,mu',bl,pm⟩
  intro c st' q
  obtain⟨B,R,T',q,n,rfl,rfl,so',rl,mu',bl,pm⟩:=q
  extract_lets r1 s1 n1 q1 jp2
  have sr:(B++R.reverse).Pairwise (Ge Le):=by
   obtain⟨p1,p2,p3⟩:=Ie.mp so'
   exact Ie.mpr ⟨p1,Uw λa ha b hb=>mu' b (Oe.mp hb) a (Oe.mp ha),λa ha b hb=>p3 a ha b (Oe.mp hb)⟩
  have pr:(B++R.reverse++T').Perm T:=(((O0 _).append_left B).append_right _).trans pm
  have lr:(B++R.reverse).length=n:=by simp;omega
  have hj2:∀C,C.Pairwise (Ge Le)->(C++T').Perm T->C.length=n->wpS M A E s (jp2 ()) Q (sS κ pd g (P++C++T')):=by
   intro C sr pr lr
   refine Ar (jgc (P:=P) (R:=C) (T:=T') rfl rfl (show P.length+n=P.length+C.length by omega) ?_)
   have sc:C.reverse.Pairwise Le:=W4.mpr sr
   have pc:(C.reverse++T').Perm T:=((O0 _).append_right _).trans pr
   have lc:C.reverse.length=n:=by simpa using lr
   obtain⟨S3,z3,e3⟩:=ji8 (S:=C.reverse) (by omega)
   rw[e3]at sc pc lc⊢
   rw[Ae,List.length_singleton]at lc
   refine jen (λx c st'=>∃S z T',c=(none,S.length+1)/\st'=sS κ pd g (P++(S++[z])++T')/\(S++[z]).Pairwise Le/\(S++[z]++T').Perm T/\x=S.length+1)
    (λc st'=>∃S z T',c=(none,S.length+1)/\st'=sS κ pd g (P++(S++[z])++T')/\(S++[z]).Pairwise Le/\(S++[z]++T').Perm T) ⟨S3,z3,T',by rw[lc],rfl,sc,pc,by rw[lc]⟩ ?_ ?_ ?_
   ·intro x c st' hx1 hx2 q Q' qd qy
    obtain⟨S,z,T',rfl,rfl,so,pm,rfl⟩:=q
    have pl:=pm.length_eq
    rw[Ae,Ae,List.length_singleton]at pl
    obtain⟨t,T2,rfl⟩:∃t T2,T'=t::T2:=by
     cases T' with
     |nil=>simp at pl;omega
     |cons t T2=>exact⟨t,T2,rfl⟩
    obtain⟨a1,a2⟩:=jg4 P S T2 z t
    refine Ar (jey O (hUp pm) a1 a2 λb hb=>jdt (λcb=>?_) λcb=>?_)
    ·exact Av (qd _ _ ⟨S,z,t::T2,rfl,rfl,so,pm⟩)
    ·cases Uk.mpr cb
     exact Av (qy _ _ ⟨S++[z],t,T2,by simp,by simp,jkh O so (O.ff _ _ hb),by simpa using pm,by simp⟩)
   ·rintro c st' ⟨S,z,T',rfl,rfl,so,pm,_⟩
    exact⟨S,z,T',rfl,rfl,so,pm⟩
   ·rintro c st' ⟨S,z,T',rfl,rfl,so,pm⟩
    have:=h (S++[z]) T' (by simp) so pm
    rw[Ae,List.length_singleton]at this
    exact Av this
  refine jdt (fun(cq:q>0)=>?_) fun(cq:¬q>0)=>?_
  ·refine Ar (jgc (P:=P++B) (R:=R) (T:=T') (by simp) (show P.length+n-(q+1)=(P++B).length by simp;omega) (show P.length+n=(P++B).length+R.length by simp;omega) ?_)
   rw[A8 P B]
   exact hj2 _ sr pr lr
  ·obtain⟨v,rfl⟩:∃v,R=[v]:=List.length_eq_one_iff.mp (by omega)
   exact hj2 _ sr pr lr
 refine jdt (fun(c2:S.length+1>1)=>?_) fun(c2:¬S.length+1>1)=>?_
 ·obtain⟨y,S1,eS⟩:∃y S1,S=y::S1:=by
   cases S with
   |nil=>simp at c2
   |cons y S1=>exact⟨y,S1,rfl⟩
  have fy:∀x∈S++[z],Le y x:=λx hx=>by
   rw[eS,List.cons_append]at hx so
   exact jfj O (O.rf y) so x hx
  refine Ar (jey O (hUp pe) (i:=P.length) (x:=y) (by rw[get3,Ah (by omega),Am (by simp),eS];simp) (jg4 P S T2 z t).2 λb hb=>jdt (λhb1=>?_) λhb1=>?_)
  ·have:=h (S++[z]) (t::T2) (by simp) so pe
   rw[Ae,List.length_singleton]at this
   exact Av this
  have zy:Le z y:=O.ff _ _ (by cases b;exact hb;exact absurd rfl hb1)
  refine Ar (jgc (P:=P) (R:=S++[z]) (T:=t::T2) rfl rfl (by simp) (hj _ (λx hx y' hy'=>O.tr _ _ _ (O.tr _ _ _ (toz x (Oe.mp hx)) zy) (fy y' (Oe.mp hy'))) (λx hx=>O.tr _ _ _ (O.tr _ _ _ tz zy) (fy x (Oe.mp hx))) (((O0 _).append_right _).trans pe) (by simp)))
 ·obtain rfl:S=[]:=Op.mp (by omega)
  refine hj _ (λx hx y' hy'=>?_) (λx hx=>?_) pe rfl
  ·cases Ai.mp hx
   cases Ai.mp hy'
   exact O.rf _
  ·cases Ai.mp hx;exact tz
end
section
variable{M:Model}{A:Around}{E:Value->Shared->Prop}{s:Shared}{κ:SortKind}{U:Keyed->Prop}{An:Keyed->Keyed->Bool->Prop}{Le:Keyed->Keyed->Prop}{pd:Array (Nat×Nat×Nat)}{g:Nat}
theorem jn7{st st':SortSt}{Q:PUnit->SortSt->Prop}(h:Q ⟨⟩ st'):wpS M A E s (set st':StateT SortSt Sem PUnit) Q st:=by
 unfold wpS;rw[StateT.run_set];exact A5 ⟨rfl,h⟩
theorem jov{α:Type}{m:StateT SortSt Sem α}{st st':SortSt}{Q:α->SortSt->Prop}(e:st=st')(h:wpS M A E s m Q st'):wpS M A E s m Q st:=e▸h
def dK:Keyed:=(Value.none,Value.none)
theorem jfa{L:List Keyed}{j:Nat}(h:j<L.length):L[j]?=some (L.getD j dK):=by rw[Ag,Ic h];rfl
theorem jgo{L:List Keyed}{k:Nat}{P:Keyed->Prop}(h:∀j,j<k->P (L.getD j dK)):∀u∈L.take k,P u:=λu hu=>by
 obtain⟨j,hj⟩:=Oa hu
 have hl:=(Ab.mp hj).1
 rw[Oi]at hl
 rw[O2 (by omega),jfa (by omega)]at hj
 cases hj
 exact h j (by omega)
theorem jgn{L:List Keyed}{k:Nat}{P:Keyed->Prop}(h:∀j,k<=j->j<L.length->P (L.getD j dK)):∀u∈L.drop k,P u:=λu hu=>by
 obtain⟨j,hj⟩:=Oa hu
 have hl:=(Ab.mp hj).1
 rw[Ua]at hl
 rw[Ue,jfa (by omega)]at hj
 cases hj
 exact h (k+j) (by omega) (by omega)
theorem jkf(O:Ord1 M A s κ U An Le)(B L D:List Keyed)(hU:∀x∈L,U x)(so:L.Pairwise Le):Seg U Le (B++L++D).toArray B.length L.length (λj=>L.getD j dK):=by
 refine⟨λj hj=>?_,λj hj=>hU _ (Ay (jfa hj)),λi j hij hj=>?_⟩
 ·rw[Ob,get3,Ah (by omega),Am (by omega),show B.length+j-B.length=j by omega]
  exact jfa hj
 ·by_cases c:i=j
  ·subst c;exact O.rf _
  ·have:=Wm.mp so i j (by omega) hj (by omega)
   obtain⟨_,e1⟩:=Ab.mp (jfa (L:=L) (j:=i) (by omega))
   obtain⟨_,e2⟩:=Ab.mp (jfa hj)
   rw[e1,e2]at this
   exact this
theorem jkg(off:Nat):∀(Z W B D:List Keyed)(n:Nat),W.length=Z.length->off+n=B.length->(Z.zipIdx n).foldl (λa x=>a.setIfInBounds (off+x.2) x.1) (B++W++D).toArray=(B++Z++D).toArray
 |[],[],B,D,n,_,_=>rfl
 |z::Z,w::W,B,D,n,hl,ho=>by
  rw[List.zipIdx_cons,List.foldl_cons]
  have e:(B++w::W++D).toArray.setIfInBounds (off+n) z=((B++[z])++W++D).toArray:=by
   rw[List.setIfInBounds_toArray,ho]
   congr 1
   rw[A8,List.set_append_right _ _ (Al _),Nat.sub_self]
   simp
  dsimp only
  rw[e,jkg off Z W (B++[z]) D (n+1) (by simpa using hl) (by simp;omega)]
  simp
 |[],_::_,_,_,_,h,_=>by simp at h
 |_::_,[],_,_,_,h,_=>by simp at h
theorem jj6(B L D:List Keyed):(B++L++D).toArray.extract B.length (B.length+L.length)=L.toArray:=by
 apply Array.toList_inj.mp
 rw[jg9]
 simp
theorem jjo{P X Y T:List Keyed}{i pw pw2:Nat}{Q:Bool->SortSt->Prop}(O:Ord1 M A s κ U An Le)(hU:∀x∈X++Y,U x)(hi:pd[i]?=some (P.length,X.length,pw))(hj:pd[i+1]?=some (P.length+X.length,Y.length,pw2))(x1:1<=X.length)(y1:1<=Y.length)(sX:X.Pairwise Le)(sY:Y.Pairwise Le)
  (h:∀Z g',Z.Perm (X++Y)->Z.Pairwise Le->Q true (sS κ ((pd.setIfInBounds i (P.length,X.length+Y.length,pw)).eraseIdxIfInBounds (i+1)) g' (P++Z++T))):wpS M A E s (mergeAt' i) Q (sS κ pd g (P++(X++Y)++T)):=by
 refine Ar (Ws ?_)
 have e1:(pendingOf (sS κ pd g (P++(X++Y)++T)))[i]?=some (P.length,X.length,pw):=hi
 have e2:(pendingOf (sS κ pd g (P++(X++Y)++T)))[i+1]?=some (P.length+X.length,Y.length,pw2):=hj
 rw[e1,e2]
 clear e1 e2
 dsimp only
 obtain⟨y0,Y',eY⟩:∃y Y',Y=y::Y':=by
  cases Y with
  |nil=>simp at y1
  |cons y Y'=>exact⟨y,Y',rfl⟩
 obtain⟨X0,xl,eX⟩:=ji8 x1
 have uX:∀x∈X,U x:=λx hx=>hU x (Im _ hx)
 have uY:∀x∈Y,U x:=λx hx=>hU x (A2 _ hx)
 have y0U:U y0:=uY y0 (by rw[eY];simp)
 have xlU:U xl:=uX xl (by rw[eX];simp)
 have yA:∀v∈Y,Le y0 v:=λv hv=>by rw[eY]at hv sY;exact jfj O (O.rf _) sY v hv
 have xA:∀v∈X,Le v xl:=λv hv=>by
  rw[eX]at hv sX
  rcases A0.mp hv with hv|hv
  ·exact(Ie.mp sX).2.2 v hv xl (by simp)
  ·cases Ai.mp hv;exact O.rf _
 have aE:arrOf (sS κ pd g (P++(X++Y)++T))=(P++(X++Y)++T).toArray:=rfl
 have SX:=jkf O P X (Y++T) uX sX
 have SY:=jkf O (P++X) Y T uY sY
 have q1:P++X++(Y++T)=P++(X++Y)++T:=by simp
 have q2:P++X++Y++T=P++(X++Y)++T:=by simp
 rw[q1]at SX
 rw[q2,Ae]at SY
 have ay:(P++(X++Y)++T).toArray[P.length+X.length]?=some y0:=by
  have:=SY.at_ 0 (by omega)
  rw[eY]at this⊢
  exact this
 have ax:∀n,n=P.length+X.length-1->(P++(X++Y)++T).toArray[n]?=some xl:=λn hn=>by
  have:=SX.at_ (X.length-1) (by omega)
  rw[show P.length+(X.length-1)=n by omega]at this
  rw[this]
  congr 1
  rw[eX]
  simp
 have whole:(∀u∈X,∀v∈Y,Le u v)->Q true (sS κ ((pd.setIfInBounds i (P.length,X.length+Y.length,pw)).eraseIdxIfInBounds (i+1)) g (P++(X++Y)++T)):=λq=>h (X++Y) g (U8 _) (Ie.mpr ⟨sX,sY,q⟩)
 refine Ar (jn7 ?_)
 refine Ar (jdo (x:=y0) ay (Ar (jeu O ⟨rfl,rfl⟩ y0U SX (by omega) λk k1 k2 k3=>?_)))
 dsimp only
 by_cases c1:(X.length-k == 0)=true
 ·rw[Am c1]
  have c1:X.length-k=0:=by simpa using c1
  refine Av (whole λu hu v hv=>O.tr _ _ _ (jgo (L:=X) (k:=k) (P:=λw=>Le w y0) k2 u ?_) (yA v hv))
  rw[Iy (by omega)];exact hu
 rw[Ah c1]
 have c1:¬X.length-k=0:=by simpa using c1
 refine Ar (jdo (x:=xl) (ax _ (by omega)) (Ar (jeu O ⟨rfl,rfl⟩ xlU SY (by omega) λnb n1 n2 n3=>?_)))
 dsimp only
 by_cases c2:(nb == 0)=true
 ·rw[Am c2]
  have c2:nb=0:=by simpa using c2
  refine Av (whole λu hu v hv=>O.tr _ _ _ (xA u hu) (jgn (L:=Y) (k:=nb) (P:=λw=>Le xl w) n3 v ?_))
  rw[c2];exact hv
 rw[Ah c2]
 have c2:¬nb=0:=by simpa using c2
 have X1y:∀u∈X.take k,Le u y0:=jgo (P:=λw=>Le w y0) k2
 have yX2:∀u∈X.drop k,Le y0 u:=jgn (P:=λw=>Le y0 w) k3
 have Y1x:∀u∈Y.take nb,Le u xl:=jgo (P:=λw=>Le w xl) n2
 have xY2:∀u∈Y.drop nb,Le xl u:=jgn (P:=λw=>Le xl w) n3
 have tX:=Ud k X
 have tY:=Ud nb Y
 have lX:(X.take k).length=k:=by rw[Oi];omega
 have lX2:(X.drop k).length=X.length-k:=Ua ..
 have lY:(Y.take nb).length=nb:=by rw[Oi];omega
 have sX':=sX
 have sY':=sY
 rw[<-tX]at sX'
 rw[<-tY]at sY'
 obtain⟨a1,a2,a3⟩:=Ie.mp sX'
 obtain⟨b1,b2,b3⟩:=Ie.mp sY'
 have all:P++(X++Y)++T=(P++X.take k)++(X.drop k++Y.take nb)++(Y.drop nb++T):=by
  have e:X++Y=X.take k++X.drop k++(Y.take nb++Y.drop nb):=by rw[tX,tY]
  rw[e]
  simp only[A8]
 have eA:(P++(X++Y)++T).toArray.extract (P.length+k) (P.length+X.length)=(X.drop k).toArray:=by
  have:=jj6 (P++X.take k) (X.drop k) (Y++T)
  rw[Ae,lX,lX2,show P.length+k+(X.length-k)=P.length+X.length by omega]at this
  rw[<-this]
  rw[A8 P (X.take k),tX,q1]
 have eB:(P++(X++Y)++T).toArray.extract (P.length+X.length) (P.length+X.length+nb)=(Y.take nb).toArray:=by
  have:=jj6 (P++X) (Y.take nb) (Y.drop nb++T)
  rw[Ae,lY]at this
  rw[<-this]
  rw[A8 (P++X) (Y.take nb),<-A8 (Y.take nb),tY,q1]
 have fin:∀(r:Array Keyed)(st':SortSt),Sm (sS κ ((pd.setIfInBounds i (P.length,X.length+Y.length,pw)).eraseIdxIfInBounds (i+1)) g (P++(X++Y)++T)) st'->Out Le (X.drop k++Y.take nb) r->∃g',SortSt.mk' (kindOf st') (r.toList.zipIdx.foldl (λa x=>a.setIfInBounds (P.length+k+x.2) x.1) (arrOf st')) (pendingOf st') (gallopOf st') (failedOf st')=sS κ ((pd.setIfInBounds i (P.length,X.length+Y.length,pw)).eraseIdxIfInBounds (i+1)) g' (P++(X.take k++r.toList++Y.drop nb)++T)/\Q true (sS κ ((pd.setIfInBounds i (P.length,X.length+Y.length,pw)).eraseIdxIfInBounds (i+1)) g' (P++(X.take k++r.toList++Y.drop nb)++T)):=λr st' sm out=>by
  obtain⟨g',rfl⟩:=sm
  obtain⟨pm,so⟩:=out
  refine⟨g',?_,h _ _ ?_ ?_⟩
  ·show SortSt.mk' κ (r.toList.zipIdx.foldl (λa x=>a.setIfInBounds (P.length+k+x.2) x.1) (P++(X++Y)++T).toArray) _ g' none=_
   rw[all,jkg (P.length+k) r.toList (X.drop k++Y.take nb) (P++X.take k) (Y.drop nb++T) 0 pm.length_eq.symm (by rw[Ae,lX];omega)]
   unfold sS
   congr 2
   simp
  ·refine List.Perm.trans (((pm.append_left _).append_right _)) ?_
   rw[<-A8,A8 _ (Y.take nb),tX,tY]
  ·have inr:∀u∈r.toList,u∈X.drop k\/u∈Y.take nb:=λu hu=>A0.mp (pm.mem_iff.mp hu)
   refine Ie.mpr ⟨Ie.mpr ⟨a1,so,λu hu v hv=>O.tr _ _ _ (X1y u hu) ?_⟩,b2,λu hu v hv=>?_⟩
   ·rcases inr v hv with hv|hv
    ·exact yX2 v hv
    ·exact yA v (Ui hv)
   ·rcases A0.mp hu with hu|hu
    ·exact O.tr _ _ _ (X1y u hu) (yA v (Oz hv))
    ·rcases inr u hu with hu|hu
     ·exact O.tr _ _ _ (xA u (Oz hu)) (xY2 v hv)
     ·exact b3 u hu v hv
 have pa:∀y,(Y.take nb).toArray[0]?=some y->∀x∈(X.drop k).toArray.toList,Le y x:=λy hy x hx=>by
  rw[Ob,O2 (by omega),eY]at hy
  cases hy
  exact yX2 x hx
 have pb:∀x,(X.drop k).toArray[(X.drop k).toArray.size-1]?=some x->∀y∈(Y.take nb).toArray.toList,Le y x:=λx hx y hy=>by
  rw[Ob,Ia,lX2,Ue,show k+(X.length-k-1)=X.length-1 by omega,eX]at hx
  simp at hx
  subst hx
  exact Y1x y hy
 have eA':(arrOf (sS κ pd g (P++(X++Y)++T))).extract (P.length+k) (P.length+X.length)=(X.drop k).toArray:=eA
 have eB':(arrOf (sS κ pd g (P++(X++Y)++T))).extract (P.length+X.length) (P.length+X.length+nb)=(Y.take nb).toArray:=eB
 rw[eA',eB']
 by_cases c3:X.length-k<=nb
 case' pos=>rw[Am c3]
 case' neg=>rw[Ah c3]
 case' pos=>refine Ar (Uv (jjx (a:=(X.drop k).toArray) (b:=(Y.take nb).toArray) (Q:=λr st'=>Sm (sS κ ((pd.setIfInBounds i (P.length,X.length+Y.length,pw)).eraseIdxIfInBounds (i+1)) g (P++(X++Y)++T)) st'/\Out Le (X.drop k++Y.take nb) r) O ⟨rfl,rfl⟩ (λx hx=>uX x (Oz hx)) (λx hx=>uY x (Ui hx)) a2 b1 (by simp;omega) (by simp;omega) pa pb λr st' h1 h2=>⟨h1,h2⟩) ?_)
 case' neg=>refine Ar (Uv (jjw (a:=(X.drop k).toArray) (b:=(Y.take nb).toArray) (Q:=λr st'=>Sm (sS κ ((pd.setIfInBounds i (P.length,X.length+Y.length,pw)).eraseIdxIfInBounds (i+1)) g (P++(X++Y)++T)) st'/\Out Le (X.drop k++Y.take nb) r) O ⟨rfl,rfl⟩ (λx hx=>uX x (Oz hx)) (λx hx=>uY x (Ui hx)) a2 b1 (by simp;omega) (by simp;omega) pa pb λr st' h1 h2=>⟨h1,h2⟩) ?_)
 all_goals
  rintro r st' ⟨sm,out⟩
  obtain⟨g',e,q⟩:=fin r st' sm out
  refine Ar (Ut ?_)
  exact jov e (Ar (Ws (Av q)))
end
theorem jk1{α:Type}(xs:Array α)(i:Nat)(h:i<xs.size):(xs.eraseIdxIfInBounds i).size=xs.size-1:=by rw[Array.eraseIdxIfInBounds_eq,dif_pos h,Array.size_eraseIdx]
theorem pend_sS{κ:SortKind}{pd:Array (Nat×Nat×Nat)}{g:Nat}(l:List Keyed):(pendingOf (sS κ pd g l)).back?=pd.back?:=rfl
theorem jot{c:Prop}[Decidable c]{n:Nat}(h:2<=n):(if c then n-2-1 else n-2)+1<n:=by split <;> omega
structure Rs(Le:Keyed->Keyed->Prop)(W:List Keyed)(pd:Array (Nat×Nat×Nat))(bs:List (List Keyed))(T:List Keyed):Prop where
 pm:(bs.flatten++T).Perm W
 so:∀b∈bs,b.Pairwise Le/\1<=b.length
 sz:pd.size=bs.length
 at_:∀i b,bs[i]?=some b->∃pw,pd[i]?=some ((bs.take i).flatten.length,b.length,pw)
theorem Rs.cnt{Le:Keyed->Keyed->Prop}{W:List Keyed}{pd:Array (Nat×Nat×Nat)}{bs:List (List Keyed)}{T:List Keyed}(h:Rs Le W pd bs T):bs.length<=bs.flatten.length:=by
 have so:=h.so
 clear h
 induction bs with
 |nil=>simp
 |cons b bs ih =>
  have:=ih λc hc=>so c (.tail _ hc)
  have:=(so b (.head _)).2
  simp only[List.length_cons,List.flatten_cons,Ae]
  omega
theorem Rs.pw{Le:Keyed->Keyed->Prop}{W:List Keyed}{pd:Array (Nat×Nat×Nat)}{bs:List (List Keyed)}{T:List Keyed}(h:Rs Le W pd bs T)(i pw:Nat):Rs Le W (pd.modify i λp=>(p.1,p.2.1,pw)) bs T:=by
 refine⟨h.pm,h.so,by rw[Array.size_modify];exact h.sz,λj b e=>?_⟩
 obtain⟨q,hq⟩:=h.at_ j b e
 rw[Array.getElem?_modify,hq]
 split
 ·exact⟨pw,rfl⟩
 ·exact⟨q,rfl⟩
theorem Rs.push{Le:Keyed->Keyed->Prop}{W:List Keyed}{pd:Array (Nat×Nat×Nat)}{bs:List (List Keyed)}{S T:List Keyed}(h:Rs Le W pd bs (S++T))(so:S.Pairwise Le)(s1:1<=S.length):Rs Le W (pd.push (bs.flatten.length,S.length,0)) (bs++[S]) T:=by
 refine⟨by simpa using h.pm,λb hb=>?_,by simp[h.sz],λi b e=>?_⟩
 ·rcases A0.mp hb with hb|hb
  ·exact h.so b hb
  ·cases Ai.mp hb;exact⟨so,s1⟩
 ·have hs:=h.sz
  rw[Array.getElem?_push]
  by_cases c:i<bs.length
  ·rw[A1 c]at e
   rw[Ah (by omega),Iz (by omega)]
   exact h.at_ i b e
  ·have hl:=(Ab.mp e).1
   rw[Ae,List.length_singleton]at hl
   obtain rfl:i=bs.length:=by omega
   rw[Am hs.symm,Iz (Al _),Ux]
   rw[Ib (Al _)]at e
   simp at e
   subst e
   exact⟨0,rfl⟩
section
variable{M:Model}{A:Around}{E:Value->Shared->Prop}{s:Shared}{κ:SortKind}{U:Keyed->Prop}{An:Keyed->Keyed->Bool->Prop}{Le:Keyed->Keyed->Prop}
theorem jgh{W T:List Keyed}{pd:Array (Nat×Nat×Nat)}{g i:Nat}{bs:List (List Keyed)}{Q:Bool->SortSt->Prop}(O:Ord1 M A s κ U An Le)(hU:∀x∈W,U x)(h:Rs Le W pd bs T)(hi:i+1<bs.length)
  (q:∀bs' pd' g',Rs Le W pd' bs' T->bs'.length+1=bs.length->bs'.flatten.length=bs.flatten.length->Q true (sS κ pd' g' (bs'.flatten++T))):wpS M A E s (mergeAt' i) Q (sS κ pd g (bs.flatten++T)):=by
 obtain⟨B1,X,Y,B2,rfl,rfl⟩:∃B1 X Y B2,bs=B1++X::Y::B2/\i=B1.length:=by
  refine⟨bs.take i,bs[i],bs[i+1],bs.drop (i+2),?_,by rw[Oi];omega⟩
  rw[<-Wl,<-Wl,Ud]
 have sX:=h.so X (by simp)
 have sY:=h.so Y (by simp)
 obtain⟨pw,e1⟩:=h.at_ B1.length X (by simp)
 obtain⟨pw2,e2⟩:=h.at_ (B1.length+1) Y (by rw[Ib (by omega)];simp)
 rw[Iz (Al _),Ux]at e1
 have t2:(B1++X::Y::B2).take (B1.length+1)=B1++[X]:=by
  rw[List.take_append,Iy (by omega)];simp
 rw[t2]at e2
 have eF:(B1++X::Y::B2).flatten++T=B1.flatten++(X++Y)++(B2.flatten++T):=by simp
 rw[eF]
 refine jjo (pw2:=pw2) O (λx hx=>hU x (h.pm.mem_iff.mp ?_)) e1 (by rw[e2];simp) sX.2 sY.2 sX.1 sY.1 λZ g' pz sZ=>?_
 ·rw[eF]
  exact Im _ (A2 _ hx)
 have lz:Z.length=X.length+Y.length:=by rw[pz.length_eq,Ae]
 have hs:pd.size=B1.length+(B2.length+2):=by have:=h.sz;simpa using this
 have eZ:B1.flatten++Z++(B2.flatten++T)=(B1++Z::B2).flatten++T:=by simp
 rw[eZ]
 refine q (B1++Z::B2) _ g' ⟨?_,λb hb=>?_,?_,λj b e=>?_⟩ (by simp only[Ae,List.length_cons];omega) (by simp only[Wh,List.flatten_cons,Ae];omega)
 ·refine List.Perm.trans ?_ h.pm
  rw[<-eZ,eF]
  exact(pz.append_left _).append_right _
 ·rcases A0.mp hb with hb|hb
  ·exact h.so b (Im _ hb)
  ·rcases Il.mp hb with rfl|hb
   ·exact⟨sZ,by omega⟩
   ·exact h.so b (A2 _ (by simp[hb]))
 ·rw[jk1 _ _ (by rw[Array.size_setIfInBounds];omega),Array.size_setIfInBounds,hs]
  simp only[Ae,List.length_cons]
  omega
 ·have pj:((pd.setIfInBounds B1.length (B1.flatten.length,X.length+Y.length,pw)).eraseIdxIfInBounds (B1.length+1))[j]?=if j<B1.length then pd[j]? else if j=B1.length then some (B1.flatten.length,X.length+Y.length,pw)else pd[j+1]?:=by
   rw[<-O1,Array.toList_eraseIdxIfInBounds,List.getElem?_eraseIdx,O1,O1,Array.getElem?_setIfInBounds,Array.getElem?_setIfInBounds]
   by_cases c:j<B1.length
   ·rw[Am (by omega),Ah (by omega),Am c]
   ·by_cases d:j=B1.length
    ·rw[Am (by omega),Am d.symm,Am (by omega),Ah c,Am d]
    ·rw[Ah (by omega),Ah (by omega),Ah c,Ah d]
  rw[pj]
  by_cases c:j<B1.length
  ·rw[Am c,Iz (by omega)]
   rw[A1 c]at e
   have:=h.at_ j b (by rw[A1 c];exact e)
   rw[Iz (by omega)]at this
   exact this
  ·rw[Ah c]
   by_cases d:j=B1.length
   ·subst d
    rw[Am rfl,Iz (Al _),Ux]
    rw[Ib (Al _)]at e
    simp at e
    subst e
    exact⟨pw,by rw[lz]⟩
   ·rw[Ah d]
    obtain⟨m,rfl⟩:∃m,j=B1.length+1+m:=⟨j-B1.length-1,by omega⟩
    rw[Ib (by omega),show B1.length+1+m-B1.length=m+1 by omega,List.getElem?_cons_succ]at e
    obtain⟨pw3,e3⟩:=h.at_ (B1.length+1+m+1) b (by rw[Ib (by omega),show B1.length+1+m+1-B1.length=m+2 by omega,List.getElem?_cons_succ,List.getElem?_cons_succ];exact e)
    refine⟨pw3,?_⟩
    rw[e3]
    have ta:(B1++X::Y::B2).take (B1.length+1+m+1)=B1++X::Y::B2.take m:=by
     rw[List.take_append,Iy (by omega),show B1.length+1+m+1-B1.length=m+2 by omega,List.take_succ_cons,List.take_succ_cons]
    have tb:(B1++Z::B2).take (B1.length+1+m)=B1++Z::B2.take m:=by
     rw[List.take_append,Iy (by omega),show B1.length+1+m-B1.length=m+1 by omega,List.take_succ_cons]
    have tc:(B1++X::Y::B2.take m).flatten.length=(B1++Z::B2.take m).flatten.length:=by
     simp only[Wh,List.flatten_cons,Ae]
     omega
    rw[ta,tb,tc]
theorem jmg{W:List Keyed}{g:Nat}{Q:Unit->SortSt->Prop}(O:Ord1 M A s κ U An Le)(hU:∀x∈W,U x)
  (h:∀Z pd g',Z.Perm W->Z.Pairwise Le->Q () (sS κ pd g' Z)):wpS M A E s sortRuns' Q (sS κ #[] g W):=by
 refine Ar (Ws ?_)
 have eN:(arrOf (sS κ #[] g W)).size=W.length:=by show W.toArray.size=_;simp
 rw[eN]
 dsimp only
 refine Ar (Uv (Um (I:=λx c st'=>∃bs T pd g,c=(none,bs.flatten.length)/\st'=sS κ pd g (bs.flatten++T)/\Rs Le W pd bs T/\x<=bs.flatten.length)
  (Q:=λc st'=>∃bs pd g n,c=(none,n)/\st'=sS κ pd g (bs.flatten++[])/\Rs Le W pd bs []) ?_ ?_ ⟨[],W,#[],g,rfl,rfl,⟨U8 _,by simp,rfl,by simp⟩,by omega⟩) ?_)
 ·rintro x c st' _ hx ⟨bs,T,pd,g,rfl,rfl,rs,hlo⟩
  dsimp only
  have pl:=rs.pm.length_eq
  rw[Ae]at pl
  by_cases c:bs.flatten.length ≥ W.length
  ·rw[Am c]
   obtain rfl:T=[]:=Op.mp (by omega)
   exact Av ⟨bs,pd,g,_,rfl,rfl,rs⟩
  rw[Ah c]
  refine Ar (jk7 O (λx hx=>hU x (rs.pm.mem_iff.mp hx)) rfl (by omega) (by omega) λS T' s1 so pm=>?_)
  dsimp only
  have pl2:=pm.length_eq
  rw[Ae]at pl2
  have rs2:Rs Le W pd bs (S++T'):=⟨(pm.append_left _).trans rs.pm,rs.so,rs.sz,rs.at_⟩
  have hU2:∀x∈bs.flatten++S++T',U x:=λx hx=>hU x (rs2.pm.mem_iff.mp (by rw[<-A8];exact hx))
  refine jdt (λcn=>?ca) (λcn=>?cb)
  case' ca =>
   refine Ar (wpS_lift (Wr ⟨rfl,?_⟩))
   refine Ar (jm2 O hU2 rfl rfl s1 (by omega) (by omega) so λS' T2 hl so' pm'=>?_)
   rw[Ah (by simp),<-hl]
   have rs3:Rs Le W pd bs (S'++T2):=⟨(pm'.append_left _).trans rs2.pm,rs.so,rs.sz,rs.at_⟩
   have s3:1<=S'.length:=by omega
   have so3:=so'
   revert rs3 s3 so3
   generalize S'=S3
   generalize T2=T3
  case' cb =>
   have rs3:=rs2
   have s3:=s1
   have so3:=so
   revert rs3 s3 so3
   generalize S=S3
   generalize T'=T3
  all_goals
   intro rs3 s3 so3
   have push:∀(bs':List (List Keyed))(pd':Array (Nat×Nat×Nat))(g':Nat),Rs Le W pd' bs' (S3++T3)->bs'.flatten.length=bs.flatten.length->∃bs2 T2 pd2 g2,((none,bs.flatten.length+S3.length):Option Unit×Nat)=(none,bs2.flatten.length)/\sS κ (pd'.push (bs.flatten.length,S3.length,0)) g' (bs'.flatten++(S3++T3))=sS κ pd2 g2 (bs2.flatten++T2)/\Rs Le W pd2 bs2 T2/\x+1<=bs2.flatten.length:=λbs' pd' g' r e=>by
    have fl:(bs'++[S3]).flatten.length=bs.flatten.length+S3.length:=by rw[Wh,Ae,e,List.flatten_singleton]
    refine⟨bs'++[S3],T3,pd'.push (bs.flatten.length,S3.length,0),g',by rw[fl],by rw[Wh,A8,List.flatten_singleton],?_,by rw[fl];omega⟩
    rw[<-e]
    exact r.push so3 s3
   rw[A8]
   refine Ar (Ws ?_)
   rw[pend_sS]
   cases pd.back? with
   |none=>exact Ar (Ut (Av (push bs pd g rs3 rfl)))
   |some q =>
    obtain⟨q1,q2,q3⟩:=q
    dsimp only
    refine Ar (Uv (Um (I:=λ_ c st'=>∃bs' pd' g',c=(none,())/\st'=sS κ pd' g' (bs'.flatten++(S3++T3))/\Rs Le W pd' bs' (S3++T3)/\bs'.flatten.length=bs.flatten.length)
     (Q:=λc st'=>∃bs' pd' g',c=(none,())/\st'=sS κ pd' g' (bs'.flatten++(S3++T3))/\Rs Le W pd' bs' (S3++T3)/\bs'.flatten.length=bs.flatten.length) ?_ (λ_ _ z=>z) ⟨bs,pd,g,rfl,rfl,rs3,rfl⟩) ?_)
    ·rintro y c st' _ _ ⟨bs',pd',g',rfl,rfl,r,e⟩
     refine Ar (Ws ?_)
     have ez:(pendingOf (sS κ pd' g' (bs'.flatten++(S3++T3)))).size=bs'.length:=r.sz
     rw[ez]
     by_cases c1:bs'.length>1
     ·obtain⟨pw,hp⟩:=r.at_ (bs'.length-2) _ (Ic (by omega))
      have hp':(pendingOf (sS κ pd' g' (bs'.flatten++(S3++T3))))[bs'.length-2]?=_:=hp
      rw[Am c1,hp']
      refine jdt (λ_=>Av ⟨bs',pd',g',rfl,rfl,r,e⟩) (λ_=>?_)
      refine Ar (jgh O hU r (by omega) λbs2 pd2 g2 r2 l1 l2=>?_)
      rw[Ah (by simp)]
      exact Av ⟨bs2,pd2,g2,rfl,rfl,r2,l2.trans e⟩
     ·rw[Ah c1]
      exact Av ⟨bs',pd',g',rfl,rfl,r,e⟩
    ·rintro c st' ⟨bs',pd',g',rfl,rfl,r,e⟩
     exact Ar (Ut (Ar (Ut (Av (push bs' _ g' (r.pw _ _) e)))))
 ·rintro c st' ⟨bs,T,pd,g,rfl,rfl,rs,hlo⟩
  have pl:=rs.pm.length_eq
  rw[Ae]at pl
  obtain rfl:T=[]:=Op.mp (by omega)
  exact⟨bs,pd,g,_,rfl,rfl,rs⟩
 ·rintro c st' ⟨bs,pd,g,n,rfl,rfl,rs⟩
  dsimp only
  have cn:=rs.cnt
  have pl:=rs.pm.length_eq
  rw[Ae,List.length_nil]at pl
  refine Ar (Uv (Um (I:=λx c st'=>∃bs pd g,c=(none,())/\st'=sS κ pd g (bs.flatten++[])/\Rs Le W pd bs []/\bs.length<=W.length-x+1)
   (Q:=λc st'=>∃bs pd g,c=(none,())/\st'=sS κ pd g (bs.flatten++[])/\Rs Le W pd bs []/\bs.length<=1) ?_ ?_ ⟨bs,pd,g,rfl,rfl,rs,by omega⟩) ?_)
  ·clear rs cn pl
   rintro x c st' _ hx ⟨bs,pd,g,rfl,rfl,rs,hb⟩
   refine Ar (Ws ?_)
   have ez:(pendingOf (sS κ pd g (bs.flatten++[]))).size=bs.length:=rs.sz
   refine jdt (λc1=>Av ⟨bs,pd,g,rfl,rfl,rs,?_⟩) (λc1=>?_)
   ·rw[<-ez];exact c1
   ·have c1:¬bs.length<=1:=by rw[<-ez];exact c1
    refine Ar (jgh O hU rs ?_ λbs' pd' g' rs' l1 l2=>?_)
    ·rw[ez]
     exact jot (by omega)
    ·rw[Ah (by simp)]
     exact Av ⟨bs',pd',g',rfl,rfl,rs',by omega⟩
  ·rintro c st' ⟨bs,pd,g,rfl,rfl,rs,hb⟩
   exact⟨bs,pd,g,rfl,rfl,rs,by omega⟩
  ·rintro c st' ⟨bs,pd,g,rfl,rfl,rs,hb⟩
   refine Av (h _ pd g rs.pm ?_)
   cases bs with
   |nil=>simp
   |cons b bs =>
    obtain rfl:bs=[]:=Op.mp (by simp at hb;simpa using hb)
    simpa using(rs.so b (.head _)).1
end
section
variable{prog:Program}{w:World}{A:Around}{E:Value->Shared->Prop}{s:Shared}
def two(v:Value):Keyed:=(v,v)
theorem jkp:∀vs:List Value,vs.zip vs=vs.map two
 |[]=>rfl
 |v::vs=>by rw[List.zip_cons_cons,jkp vs];rfl
theorem jn5(vs:List Value):(vs.map two).toArray.map (·.2)=vs.toArray:=by
 rw[List.map_toArray,Oq]
 exact Uh _ (Wz _)
theorem jk2{D:Addr}{vs:List Value}{n:Nat}{P:PySem.Fin->Shared->Prop}{κ:SortKind}{U:Keyed->Prop}{An:Keyed->Keyed->Bool->Prop}{Le:Keyed->Keyed->Prop}(ho:s.heap.get? D=some (seqObj "list" vs.toArray n))(hsz:vs.length<=sizeLine)(hU:∀v∈vs,U (two v))
  (hk:∀h2:Heap,(∀b o,b≠D->s.heap.get? b=some o->h2.get? b=some o)->2<=vs.length->Ord1 (model prog w) A {s with heap:=h2} κ U An Le/\∀C:SortKind->Shared->Prop,C κ {s with heap:=h2}->wpAny (model prog w) A (keyKind' vs.toArray) C E {s with heap:=h2})
  (h:∀(h':Heap)(vs':List Value)(c:Nat),vs'.Perm vs->(vs'.map two).Pairwise Le->h'.get? D=some (seqObj "list" vs'.toArray c)->(∀b o,b≠D->s.heap.get? b=some o->h'.get? b=some o)->P (.done (.ret .none)) {s with heap:=h'}) :
  wpAny (model prog w) A (Builtin.«list.sort» ⟨[.ref D],[]⟩) P E s:=by
 obtain⟨c1,g1⟩:∃c1,(s.heap.update D (Obj.mapSeq λ_=>(#[]:Array Value))).get? D=some (seqObj "list" #[] c1):=⟨_,get?_update_seq ho λ_=>#[]⟩
 have k1:∀b o,b≠D->s.heap.get? b=some o->(s.heap.update D (Obj.mapSeq λ_=>(#[]:Array Value))).get? b=some o:=λb o hb e=>(Og _ _ (O3 hb)).trans e
 have lv:vs.toArray.size=vs.length:=Ia ..
 rw[list_sort_plain]
 refine Ac (listItems_at ho rfl (Ac (listUpdate_at ho rfl ?_ (by rw[lv];omega) (O8 _))))
 generalize s.heap.update D (Obj.mapSeq λ_=>(#[]:Array Value))=h1 at g1 k1⊢
 refine Ac (seqEpoch_at g1 rfl (Ac (wpAny_newTuple (Ac (wpAny_newList (O9 ?_) (O8 _))) (by rw[Array.length_toList,lv];omega))))
 have k2:∀b o,h1.get? b=some o->((h1.push (seqObj "tuple" vs.toArray.toList.toArray 0)).push (seqObj "list" [].toArray 0)).get? b=some o:=λb o e=>Ad _ (Ad _ e)
 have g2:=k2 _ _ g1
 generalize hh2:((h1.push (seqObj "tuple" vs.toArray.toList.toArray 0)).push (seqObj "list" [].toArray 0))=h2 at k2 g2
 have k12:∀b o,b≠D->s.heap.get? b=some o->h2.get? b=some o:=λb o hb e=>k2 _ _ (k1 _ _ hb e)
 have hk:=hk h2 k12
 show wpAny _ A _ P E {s with heap:=h2}
 dsimp only
 have pW:∀Z:List Keyed,Z.Perm (vs.map two)->∃vs':List Value,vs'.Perm vs/\Z=vs'.map two:=λZ pm=>by
  refine⟨Z.map (·.2),?_,?_⟩
  ·have:=pm.map (·.2)
   rw[Oq]at this
   exact this.trans (by rw[show((λx:Keyed=>x.2)∘two)=id from rfl,Wz])
  ·rw[Oq]
   refine((Om λx hx=>?_).trans (Wz _)).symm
   obtain⟨v,_,rfl⟩:=Ij.mp (pm.mem_iff.mp hx)
   rfl
 have zp:vs.toArray.zip vs.toArray=(vs.map two).toArray:=by
  apply Array.toList_inj.mp
  rw[Array.toList_zip]
  exact jkp vs
 rw[zp]
 by_cases c:vs.toArray.size<2
 case' pos =>
  rw[Am c,Am c]
  refine Ac (A5 ?_)
  rw[StateT.run_pure]
  refine Ac (A5 ?_)
  have F:∃vs':List Value,vs'.Perm vs/\(vs'.map two).Pairwise Le/\arrOf (SortSt.mk' general' (vs.map two).toArray #[] 7 none)=(vs'.map two).toArray/\failedOf (SortSt.mk' general' (vs.map two).toArray #[] 7 none)=none:=by
   refine⟨vs,U8 _,?_,rfl,rfl⟩
   rw[lv]at c
   match vs,c with
   |[],_=>exact .nil
   |[v],_=>exact List.pairwise_singleton _ _
   |_::_::_,c=>simp at c;omega
  generalize SortSt.mk' general' (vs.map two).toArray #[] 7 none=st at F⊢
 case' neg =>
  rw[Ah c,Ah c]
  rw[lv]at c
  obtain⟨O,kk⟩:=hk (by omega)
  refine Ac (kk _ ?_)
  refine Ac (Ol (jmg (Q:=λ_ st=>∃vs':List Value,vs'.Perm vs/\(vs'.map two).Pairwise Le/\arrOf st=(vs'.map two).toArray/\failedOf st=none) (W:=vs.map two) (g:=7) O (λx hx=>?_) λZ pd g' pz so=>?_) ?_ λ_ _ e=>e)
  ·obtain⟨v,hv,rfl⟩:=Ij.mp hx
   exact hU v hv
  ·obtain⟨vs',hp,rfl⟩:=pW Z pz
   exact⟨vs',hp,so,rfl,rfl⟩
  rintro⟨⟨⟩,st⟩ s' ⟨rfl,F⟩
 all_goals
  obtain⟨vs',hp,so,ea,hf⟩:=F
  dsimp only
  rw[ea,hf,jn5]
  refine Ac (seqEpoch_at g2 rfl (Ac (listUpdate_at g2 rfl ?_ (O8 _) (by rw[Ia,hp.length_eq];omega))))
  rw[Ah (by simp)]
  exact A5 (h _ vs' _ hp so (get?_update_seq g2 λ_=>vs'.toArray) λb o hb e=>(Og _ _ (O3 hb)).trans (k12 _ _ hb e))
end
abbrev FZ(o:Obj):HO:=.frz o (.ext λ_=>True)
section
variable{P:Program}{w:World}{H H':Hp}{h h':Heap}{a:Addr}{o:Obj}{cs:List Addr}
theorem FZ.get(x:HOk P w H h)(e:H a=some (FZ o)):h.get? a=some o:=(x a _ e).1
theorem FZ.mk(e:h.get? a=some o):ObjOk P w H h a (FZ o):=⟨e,trivial,⟨o,e⟩,λ_ _ _ _=>trivial⟩
def hideC(H:Hp)(cs:List Addr):Hp:=λb=>if b∈cs then none else H b
def backC(H H':Hp)(cs:List Addr):Hp:=λb=>if b∈cs then H b else H' b
theorem je0(m:a∈cs):hideC H cs a=none:=Am m
theorem jdw(m:a∉cs):hideC H cs a=H a:=Ah m
theorem jkt{u:HO}(e:hideC H cs a=some u):a∉cs/\H a=some u:=by
 by_cases m:a∈cs
 ·rw[je0 m]at e;cases e
 ·exact⟨m,by rwa[jdw m]at e⟩
theorem jem(e:H a=none):hideC H cs a=none:=by unfold hideC;split <;> first|rfl|exact e
theorem jfe(m:a∈cs):backC H H' cs a=H a:=Am m
theorem jd9(m:a∉cs):backC H H' cs a=H' a:=Ah m
theorem HOk.hideC(x:HOk P w H h)(fz:∀c∈cs,∃o,H c=some (FZ o)):HOk P w (hideC H cs) h:=λb u q=>by
 obtain⟨_,q'⟩:=jkt q
 refine(x b u q').stay (λ_ _ _ z=>z) (λc z=>?_) λc xs z=>?_
 ·rw[jdw λm=>by obtain⟨o,e⟩:=fz c m;rw[z]at e;cases e];exact z
 ·rw[jdw λm=>by obtain⟨o,e⟩:=fz c m;rw[z]at e;cases e];exact z
theorem Un.backC{fs:List Addr}(u:Un fs [] (hideC H cs) H' h h')(fz:∀c∈cs,∃o,H c=some (FZ o)):Un fs [] H (backC H H' cs) h h' where
 keep:=λb o e n hb hx=>u.keep b o e (jem n) hb hx
 slot:=λb o e n hb hx=>u.slot b o e (jem n) hb hx
 free:=λb o e n hx=>by
  rw[jd9 λm=>by obtain⟨o,z⟩:=fz b m;rw[n]at z;cases z]
  exact u.free b o e (jem n) hx
 there:=u.there
 tups:=λb xs e=>by
  have m:b∉cs:=λm=>by obtain⟨o,z⟩:=fz b m;rw[e]at z;cases z
  rw[jd9 m];exact u.tups b xs (by rw[jdw m];exact e)
 frzs:=λb o u' e=>by
  by_cases m:b∈cs
  ·rw[jfe m];exact e
  ·rw[jd9 m];exact u.frzs b o u' (by rw[jdw m];exact e)
 tbls:=λb ps e=>by
  have m:b∉cs:=λm=>by obtain⟨o,z⟩:=fz b m;rw[e]at z;cases z
  obtain⟨more,q⟩:=u.tbls b ps (by rw[jdw m];exact e)
  exact⟨more,by rw[jd9 m];exact q⟩
theorem HOk.backC{fs:List Addr}(x:HOk P w H h)(x':HOk P w H' h')(u:Un fs [] (L2.hideC H cs) H' h h')(fz:∀c∈cs,∃o,H c=some (FZ o))(nf:∀c∈cs,c∉fs):HOk P w (backC H H' cs) h':=λb v q=>by
 by_cases m:b∈cs
 ·rw[jfe m]at q
  obtain⟨o,e⟩:=fz b m
  rw[e]at q
  cases A7 q
  exact FZ.mk (u.keep b o (FZ.get x e) (je0 m) (nf b m) (by simp))
 ·rw[jd9 m]at q
  have no:∀c∈cs,H' c=none:=λc hc=>by
   obtain⟨o,e⟩:=fz c hc
   exact u.free c o (FZ.get x e) (je0 hc) (by simp)
  refine(x' b v q).stay (λ_ _ _ z=>z) (λc z=>?_) λc xs z=>?_
  ·rw[jd9 λhc=>by rw[no c hc]at z;cases z];exact z
  ·rw[jd9 λhc=>by rw[no c hc]at z;cases z];exact z
theorem Kp.backC{S:List Addr}(k:Kp S (L2.hideC H cs) H'):Kp S H (backC H H' cs):=by
 refine⟨λb o e n=>?_,λb xs e=>?_,λb o e=>?_⟩
 ·by_cases m:b∈cs
  ·rw[jfe m];exact e
  ·rw[jd9 m];exact k.old b o (by rw[jdw m];exact e) n
 ·by_cases m:b∈cs
  ·rw[jfe m];exact e
  ·rw[jd9 m];exact k.tup b xs (by rw[jdw m];exact e)
 ·by_cases m:b∈cs
  ·exact⟨o,by rw[jfe m];exact e⟩
  ·rw[jd9 m];exact k.dom b o (by rw[jdw m];exact e)
end
structure LamScope(ps fs:List Str)(sc:Scope):Prop where
 kind:sc.kind=.function
 co:sc.isCoroutine=false
 gen:sc.isGenerator=false
 nd:(ps++fs).Nodup
 par:∀x∈ps,sc.names.lookup x=some .local
 nocell:∀y∈sc.names,y.2≠.cell
 fr:∀x∈fs,sc.names.lookup x=some .free
 only:∀x,sc.names.lookup x=some .free->x∈fs
def jks(P:Program)(w:World)(K:PySem.W.Frag)(mg:Str->Option Value)(base:Heap)(N:List Str)(qual:Str)(scope:Scope)(f:Addr)(cd:Value)(cl:List (Str×Addr))(A:Around)(outer:List Env)(s:Shared)(H:Hp):Cx where
 prog:=P
 w:=w
 K:=K
 mg:=mg
 base:=base
 A:=A.deeper (PySem.W.envX qual scope s.heap.objs.size f cd cl)
 N:=N
 s₀:=s
 H₀:=H
 env:=PySem.W.envX qual scope s.heap.objs.size f cd cl
 outer:=outer
 stack:=PySem.W.envX qual scope s.heap.objs.size f cd cl::outer
 ex:=[]
 calm:=true
 fn:=λ_=>false
 pn:=[]
 xe:=λ_ _=>False
structure Caps(H:Hp)(cl:List (Str×Addr))(fs:List Str)(ws:List V):Prop where
 len:ws.length=fs.length
 at_:∀(i:Nat)(x:Str)(v:V),fs[i]?=some x->ws[i]?=some v->∃c o u,cl.lookup x=some c/\H c=some (FZ o)/\o.data=.cell (some u)/\RelV v u
 has:∀x∈fs,∃c,cl.lookup x=some c
 fz:∀p∈cl,∃o u,H p.2=some (FZ o)/\o.data=.cell u
 inj:∀x y c,cl.lookup x=some c->cl.lookup y=some c->x=y
def CodeZ(H:Hp)(c:Addr)(qual:Str):Prop:=∃oc vs t,H c=some (FZ oc)/\oc.data=.fields vs/\vs[1]?=some (.str qual t)
theorem jko{α β:Type}:∀{l:List α}{m:List β}{i:Nat}{x:α}{y:β},l[i]?=some x->m[i]?=some y->(l.zip m)[i]?=some (x,y)
 |[],_,_,_,_,h,_=>by simp at h
 |_::_,[],_,_,_,_,h=>by simp at h
 |_::_,_::_,0,_,_,h,h'=>by simp at h h';subst h;subst h';rfl
 |_::l,_::m,i+1,_,_,h,h'=>by
  simp at h h'
  simpa using jko (l:=l) (m:=m) h h'
theorem jkv{ps:List Str}{us:List Value}(nd:ps.Nodup){i:Nat}{x:Str}{u:Value}(h:ps[i]?=some x)(h':us[i]?=some u):(ps.zip us).reverse.lookup x=some u:=by
 have key:∀(l:List (Str×Value)),(l.map Prod.fst).Nodup->(x,u)∈l->l.lookup x=some u:=by
  intro l
  induction l with
  |nil=>intro _ m;cases m
  |cons q l ih =>
   intro nd m
   obtain⟨y,v⟩:=q
   rw[Ak,Up]at nd
   rcases Il.mp m with e|m
   ·cases e;simp[List.lookup]
   ·have:x≠y:=λe=>nd.1 (by rw[<-e];exact Ij.mpr ⟨(x,u),m,rfl⟩)
    rw[List.lookup_cons]
    have b:(x == y)=false:=by simpa using this
    rw[b]
    exact ih nd.2 m
 refine key _ ?_ (Oe.mpr (Ay (jko h h')))
 rw[List.map_reverse]
 refine(O0 _).nodup_iff.mpr ?_
 have:∀(l:List Str)(m:List Value),((l.zip m).map Prod.fst).Sublist l:=by
  intro l
  induction l with
  |nil=>intro m;simp
  |cons y l ih =>
   intro m
   cases m with
   |nil=>simp
   |cons v m=>exact(ih m).cons₂ y
 exact nd.sublist (this ps us)
section
variable{P:Program}{w:World}{K:PySem.W.Frag}{mg:Str->Option Value}{base:Heap}{k:Nat}{f c':Addr}{name qual:Str}{params:Arguments}{body:Expr}{scope:Scope}{pm ct:Value}{ps fs:List Str}{cl:List (Str×Addr)}{sp:Sp}
theorem jnp{A:Around}{outer:List Env}{s:Shared}{h1:Heap}{tk:Tok}{H:Hp}{us:List Value}{vs ws:List V}(S:LamScope ps fs scope)(hd:A.handled=none)(e0:Env0 P w K mg base A outer s H)(hl:vs.length=ps.length)(r:Vals vs us)(cap:Caps H cl fs ws)
  (hns:h1.Ns s.heap.objs.size λy=>(ps.zip us).reverse.lookup y) (hk:∀b o,s.heap.get? b=some o->h1.get? b=some o) :
  Inv (jks P w K mg base (ps++fs) qual scope f (.ref c') cl A outer s (hideC H (cl.map Prod.snd))) [] (vs.map some++ws.map some) (hideC H (cl.map Prod.snd)) {s with heap:=h1,toks:=tk}:=by
 have fz:∀c∈cl.map Prod.snd,∃o,H c=some (FZ o):=λc hc=>by
  obtain⟨p,hp,rfl⟩:=Ij.mp hc
  obtain⟨o,u,e,_⟩:=cap.fz p hp
  exact⟨o,e⟩
 have hok:=HOk.hideC e0.hok fz
 have inC:∀x c,cl.lookup x=some c->c∈cl.map Prod.snd:=λx c e=>Ij.mpr ⟨(x,c),Ot e,rfl⟩
 have noA:∀b:Addr,b∉(jks P w K mg base (ps++fs) qual scope f (.ref c') cl A outer s (hideC H (cl.map Prod.snd))).ex:=λb z=>absurd (show b∈([]:List Addr)from z) (by simp)
 refine⟨⟨e0.mod,S.kind,rfl,rfl,Al _,cap.inj,λy hy=>?_,λy c z=>(by cases z),λ_=>hd,Around.frames_deeper e0.frames,.inr ⟨rfl,rfl⟩,λb z=>absurd z (noA b),λb o e=>⟨(e0.bs b o e).1,jem (e0.bs b o e).2⟩,e0.bsz,λb _ _=>noA b,λb z=>absurd z (noA b),e0.funs,λb z=>jem (e0.frf b z)⟩,
  rfl,e0.bare,Un.kept hk,⟨_,hns,λi y v q1 q2 q3=>?_⟩,λy c h=>?_,jem (e0.hok.fresh (Al _)),λy c h=>je0 (inC y c h),λp hp=>absurd (show p∈([]:List (Addr×Obj))from hp) (by simp),hok.kept hk,?_⟩
 ·have hy:scope.names.lookup y=some .cell\/scope.names.lookup y=some .free:=hy
  rcases hy with hy|hy
  ·exact absurd rfl (S.nocell _ (Ot hy))
  ·exact cap.has y (S.only y hy)
 ·have q1:(ps++fs)[i]?=some y:=q1
  by_cases hi:i<ps.length
  ·rw[A1 hi]at q1
   rw[A1 (by rw[Aa];omega),A9]at q2
   have ha:vs[i]?=some v:=by
    cases e:vs[i]? with
    |none=>rw[e]at q2;cases q2
    |some a=>rw[e]at q2;cases q2;rfl
   obtain⟨u,hu,rv⟩:=r.get ha
   exact⟨u,rv,.inl ⟨S.par y (Ay q1),jkv (S.nd.sublist (List.sublist_append_left _ _)) q1 hu⟩⟩
  ·rw[Ib (by omega)]at q1
   rw[Ib (by rw[Aa];omega),Aa,hl,A9]at q2
   have ha:ws[i-ps.length]?=some v:=by
    cases e:ws[i-ps.length]? with
    |none=>rw[e]at q2;cases q2
    |some a=>rw[e]at q2;cases q2;rfl
   obtain⟨c,o,u,e1,e2,e3,rv⟩:=cap.at_ _ y v q1 ha
   exact⟨u,rv,.inr ⟨.inr (S.fr y (Ay q1)),c,e1,o,hk _ _ (FZ.get e0.hok e2),e3⟩⟩
 ·obtain⟨o,u,e,d⟩:=cap.fz (y,c) (Ot h)
  exact⟨u,o,hk _ _ (FZ.get e0.hok e),d⟩
 ·show(vs.map some++ws.map some).length=(ps++fs).length
  rw[Ae,Ae,Aa,Aa,hl,cap.len]
theorem jod(S:LamScope ps fs scope)(len:∀vs H Q E,sp vs H Q E->vs.length=ps.length)
  (hbody:∀(vs:List V)(H:Hp)(Q:VK)(E:XK),sp vs H Q E->H f=some (FZ (PySem.W.kla_obj name qual params body scope cl pm c' ct))/\CodeZ H c' qual/\∃ws,Caps H cl fs ws /\
   ∀(A:Around)(outer:List Env)(s:Shared),Room k (A.deeper (PySem.W.envX qual scope s.heap.objs.size f (.ref c') cl)) ->
    ∃t,PE (jks P w K mg base (ps++fs) qual scope f (.ref c') cl A outer s (hideC H (cl.map Prod.snd))) body t/\t (vs.map some++ws.map some) (hideC H (cl.map Prod.snd)) λv H'=>(∀c∈cl.map Prod.snd,H' c=none)->Q v (backC H H' (cl.map Prod.snd))) :
  FnOk P w K mg base CX0 (k+1) f (PySem.W.kla_fn name qual params body scope cl pm (.ref c') ct) ps sp:=by
 refine⟨len,λA outer s H args us vs Q E hr e0 hb r hsp=>?_⟩
 have hl:=len _ _ _ _ hsp
 obtain⟨hf,⟨oc,vc,tc,hc,hoc,hv1⟩,ws,cap,hb0⟩:=hbody vs H Q E hsp
 have lim:s.heap.NoLimit:=e0.mod.nolimit.keeps λb o e=>(e0.bs b o e).1
 have fz:∀c∈cl.map Prod.snd,∃o,H c=some (FZ o):=λc hc=>by
  obtain⟨p,hp,rfl⟩:=Ij.mp hc
  obtain⟨o,u,e,_⟩:=cap.fz p hp
  exact⟨o,e⟩
 refine PySem.W.kla_callFunE hr.depth (FZ.get e0.hok hf) rfl S.co S.gen rfl ⟨c',oc,vc,tc,rfl,FZ.get e0.hok hc,hoc,hv1⟩ (hb _ _ _ _ ?_)
 refine Yc S.nocell (λy hy=>S.par _ (W9 hy).1) (λh1 hns hsb=>⟨lim.fresh _ hsb,?_⟩) S.kind
 show codeAny _ _ (.expr body (PySem.W.envX qual scope s.heap.objs.size f (.ref c') cl)) _ _
 have hk:∀b o,s.heap.get? b=some o->h1.get? b=some o:=λb o e=>hsb.extBut b o (Ip (A6 e)) (Ad _ e)
 obtain⟨t,ht,hq⟩:=hb0 A outer s (hr.deeper _)
 have I:=jnp (f:=f) (c':=c') (qual:=qual) (tk:=s.toks+(ps.zip us).length) S hr.hd e0 hl r cap hns hk
 refine PySem.W.kla_codeExpr (Ol (ht [] _ _ _ _ I hq) (λu s' hs=>?_) λe s' hs=>False.elim hs)
 obtain⟨v,H',J,rv,q⟩:=hs
 have nf:∀c∈cl.map Prod.snd,c∉frs outer:=λc hc z=>by
  obtain⟨o,e⟩:=fz c hc
  rw[e0.frf c z]at e;cases e
 exact⟨v,_,J.os,J.bare,Un.backC J.base fz,HOk.backC e0.hok J.hok J.base fz nf,rv,q λc hc=>by
  obtain⟨o,e⟩:=fz c hc
  exact J.base.free c o (FZ.get e0.hok e) (je0 hc) (by intro z;exact absurd (show c∈([]:List Addr)from z) (by simp))⟩
end
section
variable{X:Cx}
def jc6(P:Program)(w:World)(K:PySem.W.Frag)(mg:Str->Option Value)(base:Heap)(k i:Nat)(t:TA):TE:=λσ H Q=>∃(f:Addr)(o:Obj)(fd:FuncData)(ps:List Str)(sp:Sp),σ[i]?=some (some (.ref f))/\o.data=.func fd /\
 FnOk P w K mg base CX0 k f fd ps sp/\Binds K fd ps []/\t σ H λvs H1=>H1 f=some (FZ o)/\sp vs H1 Q E0
theorem pe_callD{P:Program}{w:World}{K:PySem.W.Frag}{mg:Str->Option Value}{base:Heap}(hP:X.prog=P)(hw:X.w=w)(hK:X.K=K)(hM:X.mg=mg)(hB:X.base=base){k:Nat}{x:Str}{p pos:Pos}{e:Expr}{es:List Expr}{t:TA}(i:Nat)(hr:Room k X.A)(ha:PA X (e::es) t)
  (hN:X.N[i]?=some x:=by rfl) (hv:Vis X.env.scope x:=by first|exact Or.inl rfl|exact Or.inr (Or.inl rfl)|exact Or.inr (Or.inr rfl))
  (hdb:(x == ("__debug__":Str))=false:=by decide) (hcd:(x == ("__classdict__":Str))=false:=by decide) (he:starEach (e::es) X.env=(false,eval e X.env)::starEach es X.env:=by rfl) :
  PE X (.Call (.Name x p) (e::es) [] pos) (jc6 P w K mg base k i t):=by
 subst hP;subst hw;subst hK;subst hM;subst hB
 intro pins s σ H Q I h
 obtain⟨f,o,fd,ps,sp,e0,hd,F,hb,h⟩:=h
 refine Uc (thn (jbx hN hv hdb hcd pins s σ H (λv H'=>v=.ref f/\t σ H' λvs H1=>H1 f=some (FZ o)/\sp vs H1 Q E0) I ⟨_,e0,rfl,h⟩) λu s1 ⟨v,H1,I1,r,hv1,h1⟩=>?_)
 subst hv1
 cases r
 refine callWith_def (o:=o) (fd:=fd) hd (thn (ha pos pins s1 σ H1 _ I1 h1) λus s2 ⟨vs,H2,I2,r2,q1,q2⟩=>⟨FZ.get I2.hok q1,?_⟩) he
 exact jl4 F hr hb .nil jy I2 r2 (by rw[Aq];exact q2)
def jei(H:Hp)(cs:List (Addr×Obj)):Hp:=λb=>match cs.lookup b with
 |some o=>some (FZ o)
 |none=>H b
theorem jfg{H:Hp}{cs:List (Addr×Obj)}{b:Addr}{o:Obj}(e:cs.lookup b=some o):jei H cs b=some (FZ o):=by unfold jei;rw[e]
theorem jea{H:Hp}{cs:List (Addr×Obj)}{b:Addr}(e:cs.lookup b=none):jei H cs b=H b:=by unfold jei;rw[e]
theorem jhf{cs:List (Addr×Obj)}{b:Addr}(h:b∈cs.map Prod.fst):∃o,cs.lookup b=some o:=by
 cases e:cs.lookup b with
 |some o=>exact⟨o,rfl⟩
 |none =>
  obtain⟨p,hp,rfl⟩:=Ij.mp h
  have:=List.lookup_eq_none_iff.mp e p hp
  simp at this
theorem jjb{cs:List (Addr×Obj)}{b:Addr}(h:b∉cs.map Prod.fst):cs.lookup b=none:=by
 refine List.lookup_eq_none_iff.mpr λp hp=>?_
 simp only[bne_iff_ne,ne_eq]
 rintro rfl
 exact h (Ij.mpr ⟨p,hp,rfl⟩)
theorem Inv.env0C{pins:List (Addr×Obj)}{σ:St}{H:Hp}{s:Shared}{cs:List (Addr×Obj)}(I:Inv X pins σ H s)(hc:∀b o,cs.lookup b=some o->s.heap.get? b=some o/\H b=none/\X.base.get? b=none/\b∉frs X.stack) :
  Env0 X.prog X.w X.K X.mg X.base X.A X.stack s (jei H cs):=by
 have e:=I.env0
 refine⟨e.frames,e.mod,λb o q=>⟨(e.bs b o q).1,?_⟩,e.bsz,e.funs,λb hb=>?_,λb u q=>?_,e.bare⟩
 ·cases z:cs.lookup b with
  |some o'=>rw[(hc b o' z).2.2.1]at q;cases q
  |none=>rw[jea z];exact(e.bs b o q).2
 ·cases z:cs.lookup b with
  |some o'=>exact absurd hb (hc b o' z).2.2.2
  |none=>rw[jea z];exact e.frf b hb
 ·cases z:cs.lookup b with
  |some o' =>
   rw[jfg z]at q
   cases A7 q
   exact FZ.mk (hc b o' z).1
  |none =>
   rw[jea z]at q
   have no:∀c,(∃v,H c=some v)->jei H cs c=H c:=λc ⟨v,hv⟩=>jea (by
    cases y:cs.lookup c with
    |none=>rfl
    |some o=>rw[(hc c o y).2.1]at hv;cases hv)
   exact(e.hok b u q).stay (λ_ _ _ y=>y) (λc y=>by rw[no c ⟨_,y⟩];exact y) λc xs y=>by rw[no c ⟨_,y⟩];exact y
theorem Un.hideS{fs:List Addr}{P:Program}{w:World}{H H':Hp}{h h':Heap}{cs:List (Addr×Obj)}(u:Un fs [] (jei H cs) H' h h')(x':HOk P w H' h')(hc:∀b o,cs.lookup b=some o->h.get? b=some o/\H b=none):Un fs [] H (hideC H' (cs.map Prod.fst)) h h':=by
 have out:∀b v,H b=some v->cs.lookup b=none:=λb v e=>by
  cases y:cs.lookup b with
  |none=>rfl
  |some o=>rw[(hc b o y).2]at e;cases e
 have nin:∀b v,H b=some v->b∉cs.map Prod.fst:=λb v e m=>by
  obtain⟨o,y⟩:=jhf m
  rw[out b v e]at y;cases y
 have kept:∀b o,cs.lookup b=some o->h'.get? b=some o:=λb o z=>FZ.get x' (u.frzs b o _ (jfg z))
 refine⟨λb o e n hb hx=>?_,λb o e n hb hx=>?_,λb o e n hx=>?_,u.there,λb xs e=>?_,λb o v e=>?_,λb ps e=>?_⟩
 ·cases z:cs.lookup b with
  |some o' =>
   have:=(hc b o' z).1
   rw[e]at this;cases this
   exact kept b o z
  |none=>exact u.keep b o e (by rw[jea z];exact n) hb hx
 ·cases z:cs.lookup b with
  |some o' =>
   have:=(hc b o' z).1
   rw[e]at this;cases this
   exact⟨o.slots,kept b o z⟩
  |none=>exact u.slot b o e (by rw[jea z];exact n) hb hx
 ·cases z:cs.lookup b with
  |some o' =>
   refine je0 (Classical.byContradiction λm=>?_)
   rw[jjb m]at z;cases z
  |none=>exact jem (u.free b o e (by rw[jea z];exact n) hx)
 ·rw[jdw (nin b _ e)];exact u.tups b xs (by rw[jea (out b _ e)];exact e)
 ·rw[jdw (nin b _ e)];exact u.frzs b o v (by rw[jea (out b _ e)];exact e)
 ·obtain⟨more,q⟩:=u.tbls b ps (by rw[jea (out b _ e)];exact e)
  exact⟨more,by rw[jdw (nin b _ e)];exact q⟩
variable{pins:List (Addr×Obj)}{σ:St}{H:Hp}{s:Shared}
def jjy(σ:St)(H:Hp)(js:List (Nat×Addr))(cs:List (Addr×Obj)):Prop :=
 Paired (fun(j:Nat×Addr) (p:Addr×Obj)=>p.1=j.2/\H j.2=none/\∃v u,σ[j.1]?=some (some v)/\p.2.data=.cell (some u)/\RelV v u) js cs
theorem Inv.cellAt(I:Inv X pins σ H s){i:Nat}{c:Addr}{x:Str}{v:V}(hN:X.N[i]?=some x)(hk:X.env.kindOf x=some .cell)(hf:X.fn x=true)(hl:X.env.cells.lookup x=some c)(e:σ[i]?=some (some v)) :
  ∃o u,s.heap.get? c=some o/\o.data=.cell (some u)/\RelV v u/\H c=none/\X.base.get? c=none/\c∉frs X.stack:=by
 obtain⟨m,hns,loc⟩:=I.loc
 obtain⟨u,rv,lk⟩:=loc i x v hN e (.inr (.inl hk))
 rcases lk with⟨k,_⟩|⟨_,c',e',o,ho,hd⟩
 ·rw[hk]at k;cases k
 ·rw[hl]at e'
  cases A7 e'
  have ge:=I.ok.cab x c hf hl
  refine⟨o,u,ho,hd,rv,I.freeC x c hl,Wa (Io I.ok.bsz ge),λhb=>?_⟩
  rcases Il.mp (I.stkSub c hb)with z|z
  ·obtain⟨ol,es,ep,e1,e2,_⟩:=hns
   rw[<-z,ho]at e1
   cases A7 e1
   rw[hd]at e2;cases e2
  ·obtain⟨_,ob,hob,_⟩:=I.ok.funs.mem z
   exact absurd (A6 hob) (Nat.not_lt.mpr ge)
theorem jiz(I:Inv X pins σ H s):∀{js:List (Nat×Addr)},(∀j∈js,∃x,X.N[j.1]?=some x/\X.env.kindOf x=some .cell/\X.fn x=true/\X.env.cells.lookup x=some j.2)->(∀j∈js,∃v,σ[j.1]?=some (some v)) ->
  ∃cs,jjy σ H js cs/\∀b o,cs.lookup b=some o->s.heap.get? b=some o/\H b=none/\X.base.get? b=none/\b∉frs X.stack
 |[],_,_=>⟨[],.nil,λb o z=>by cases z⟩
 |j::js,h1,h2=>by
  obtain⟨cs,pr,hc⟩:=jiz I (js:=js) (λi hi=>h1 i (.tail _ hi)) λi hi=>h2 i (.tail _ hi)
  obtain⟨x,e1,e2,e3,e4⟩:=h1 j (.head _)
  obtain⟨v,e5⟩:=h2 j (.head _)
  obtain⟨o,u,q1,q2,q3,q4,q5,q6⟩:=I.cellAt e1 e2 e3 e4 e5
  refine⟨(j.2,o)::cs,.cons ⟨rfl,q4,v,u,e5,q2,q3⟩ pr,λb o' z=>?_⟩
  rw[List.lookup_cons]at z
  split at z
  ·rename_i hb
   cases A7 z
   have:b=j.2:=by simpa using hb
   subst this
   exact⟨q1,q4,q5,q6⟩
  ·exact hc b o' z
end
theorem jkr{pos pos':Pos}{c:Value}(l:List Value)(h:TriplesOk l){v:Value}(e:codeAmong pos' (l++[rawInt pos.line,rawInt pos.col,c])=some v):codeAmong pos' l=some v\/v=c:=by
 fun_induction TriplesOk l with
 |case1 =>
  simp only[List.nil_append,codeAmong,rawInt]at e
  split at e
  ·exact .inr (A7 e).symm
  ·cases e
 |case2 a t b u x rest ih =>
  simp only[List.cons_append,codeAmong]at e⊢
  split at e
  ·rename_i hc;rw[Am hc];exact .inl e
  ·rename_i hc;rw[Ah hc];exact ih h e
 |case3 l h1 h2=>exact h.elim
def TabOk(H:Hp)(Pt:Addr)(qual:Str):Prop:=∃ps,H Pt=some (.tbl ps)/\TriplesOk ps.toList/\∀pos cv,codeAmong pos ps.toList=some cv->∃c,cv=.ref c/\CodeZ H c qual
theorem CodeZ.kp{S:List Addr}{H H':Hp}{c:Addr}{qual:Str}(k:Kp S H H')(n:c∉S)(x:CodeZ H c qual):CodeZ H' c qual:=let⟨oc,vs,t,e,r⟩:=x;⟨oc,vs,t,k.old _ _ e n,r⟩
def tLam(Pt:Addr)(qual:Str)(params:Arguments)(body:Expr)(scope:Scope)(cl:List (Str×Addr))(pm:Value):TE:=λσ H Q=>TabOk H Pt qual/\∀f c ct H',H f=none->Kp [Pt] H H'->H' f=some (FZ (PySem.W.kla_obj "<lambda>" qual params body scope cl pm c ct))->CodeZ H' c qual->TabOk H' Pt qual->Q (.ref f) H'
section
variable{X:Cx}
theorem pe_lambda{params:Arguments}{body:Expr}{scope:Scope}{pos:Pos}{c Pt:Addr}{cl:List (Str×Addr)}(hdef:defaultsOf params X.env=([],[]))(hcl:closureFor scope X.env=pure cl)(hcode:X.env.code=.ref c)(hC:PySem.W.CodeHd X.base c Pt)(hbt:X.base.BuiltinsAt X.mg Pt) :
  PE X (.Lambda params body scope pos) (tLam Pt (X.env.qual++"<lambda>") params body scope cl ((X.mg "__name__").getD .none)):=by
 intro pins s σ H Q I h
 obtain⟨⟨ps,hP,ht,hin⟩,h⟩:=h
 have oP:s.heap.get? Pt=some (PySem.W.tabObj ps):=I.hok Pt _ hP
 have hgs:s.heap.Ns mainGlobals X.mg:=I.mod.glob.keeps I.bk
 have hgP:mainGlobals≠Pt:=λq=>by
  obtain⟨o,es,ep,e,hd,_⟩:=hgs
  rw[q,oP]at e;cases e;cases hd
 have hb:s.heap.BuiltinsAt X.mg Pt:=let⟨bm,o,b1,b2,b3,b4,b5,r⟩:=hbt;⟨bm,o,b1,b2,b3,b4,I.bk _ _ b5,r⟩
 have C:=hC.keeps I.bk
 refine PySem.W.kla_eval hdef ?_
 cases hf:codeAmong pos ps.toList with
 |some cv =>
  obtain⟨c',rfl,cz⟩:=hin pos cv hf
  refine PySem.W.kla_makeFunctionHit (mg:=X.mg) hcl I.ok.glob hgs hcode C oP ht hf hb λctv h' tk hk hsz=>?_
  have hf:H h'.objs.size=none:=I.hok.fresh hsz
  have kp:Kp [Pt] H (upd H h'.objs.size (FZ (PySem.W.kla_obj "<lambda>" (X.env.qual++"<lambda>") params body scope cl ((X.mg "__name__").getD .none) c' ctv))):=(Kp.refl [Pt] H).new hf
  have kp0:Kp [] H (upd H h'.objs.size (FZ (PySem.W.kla_obj "<lambda>" (X.env.qual++"<lambda>") params body scope cl ((X.mg "__name__").getD .none) c' ctv))):=(Kp.refl [] H).new hf
  refine⟨.ref h'.objs.size,_,I.laid (t':=tk) (λb u e=>Ad _ (hk b u e)) hsz (FZ.mk (Ir _ rfl)),rfl,h _ c' ctv _ hf kp jb (cz.kp kp0 (by simp)) ⟨ps,kp0.old _ _ hP Aj,ht,λp v e=>?_⟩⟩
  obtain⟨c2,e2,z⟩:=hin p v e
  exact⟨c2,e2,z.kp kp0 (by simp)⟩
 |none =>
  refine PySem.W.kla_makeFunction (mg:=X.mg) hcl I.ok.glob hgs hcode C oP ht hf hgP hb λc' ctv h' tk hx hge hlt hrec htb=>?_
  obtain⟨c₂,oc,vs,t,e2,hoc,hd,hv⟩:=hrec
  cases e2
  have lP:Pt<s.heap.objs.size:=A6 oP
  have lt:∀b u,H b=some u->b<s.heap.objs.size:=λb u e=>(I.hok b u e).lt
  have nPc:Pt≠c':=Ip (Ig lP hge)
  have nPf:Pt≠h'.objs.size:=Ip (Yb (Ig lP hge) hlt)
  have ncf:c'≠h'.objs.size:=Ip hlt
  have fC:H c'=none:=I.hok.fresh hge
  have fF:H h'.objs.size=none:=I.hok.fresh (Io hge (U5 hlt))
  let o1:Obj:=PySem.W.kla_obj "<lambda>" (X.env.qual++"<lambda>") params body scope cl ((X.mg "__name__").getD .none) c' ctv
  let ps':Array Value:=ps++#[rawInt pos.line,rawInt pos.col,.ref c']
  let H':Hp:=upd (upd (upd H Pt (.tbl ps')) c' (FZ oc)) h'.objs.size (FZ o1)
  have eF:H' h'.objs.size=some (FZ o1):=jb
  have eC:H' c'=some (FZ oc):=by show upd _ _ _ c'=_;rw[jd ncf,jb]
  have eP:H' Pt=some (.tbl ps'):=by show upd _ _ _ Pt=_;rw[jd nPf,jd nPc,jb]
  have eO:∀b,b≠Pt->b≠c'->b≠h'.objs.size->H' b=H b:=λb n1 n2 n3=>by show upd _ _ _ b=_;rw[jd n3,jd n2,jd n1]
  have eS:∀b,b<s.heap.objs.size->b≠Pt->H' b=H b:=λb l n=>eO b n (Ip (Ig l hge)) (Ip (Yb (Ig l hge) hlt))
  have kp:Kp [Pt] H H':=by
   refine⟨λb o e n=>?_,λb xs e=>?_,λb o e=>?_⟩
   ·rw[eS b (lt b _ e) (by simpa using n)];exact e
   ·rw[eS b (lt b _ e) (λz=>by rw[z,hP]at e;cases e)];exact e
   ·by_cases z:b=Pt
    ·exact⟨_,by rw[z];exact eP⟩
    ·exact⟨o,by rw[eS b (lt b _ e) z];exact e⟩
  have kept:∀b o,b≠Pt->s.heap.get? b=some o->(h'.push o1).get? b=some o:=λb o n e=>Ad _ (hx b o n e)
  have un:Un (frs X.stack) [] H H' s.heap (h'.push o1):=by
   refine⟨λb o e n _ _=>kept b o (λz=>by rw[z,hP]at n;cases n) e,λb o e n _ _=>⟨o.slots,kept b o (λz=>by rw[z,hP]at n;cases n) e⟩,λb o e n _=>?_,λb o e _=>?_,λb xs e=>kp.tup b xs e,λb o u e=>?_,λb qs e=>?_⟩
   ·rw[eS b (A6 e) (λz=>by rw[z,hP]at n;cases n)];exact n
   ·by_cases z:b=Pt
    ·exact⟨_,by rw[z];exact Ad _ htb⟩
    ·exact⟨o,kept b o z e⟩
   ·exact kp.old b _ e (by simp;intro z;rw[z,hP]at e;cases e)
   ·by_cases z:b=Pt
    ·subst z
     rw[hP]at e
     cases A7 e
     exact⟨_,eP⟩
    ·exact⟨#[],by rw[eS b (lt b _ e) z,e];simp⟩
  have hok:HOk X.prog X.w H' (h'.push o1):=λb u q=>by
   by_cases z1:b=h'.objs.size
   ·subst z1
    rw[eF]at q
    cases A7 q
    exact FZ.mk (Ir _ rfl)
   ·by_cases z2:b=c'
    ·subst z2
     rw[eC]at q
     cases A7 q
     exact FZ.mk (Ad _ hoc)
    ·by_cases z3:b=Pt
     ·subst z3
      rw[eP]at q
      cases A7 q
      exact Ad _ htb
     ·rw[eO b z3 z2 z1]at q
      refine(I.hok b u q).stay (λd v hd' e=>kept d v ?_ e) (λd e=>?_) λd xs e=>kp.tup d xs e
      ·rcases hd' with rfl|hd'
       ·exact z3
       ·intro z;rw[z,hP]at hd';cases hd'
      ·exact kp.old d _ e (by simp;intro z;rw[z,hP]at e;cases e)
  have nC:∀c2,(∃o,H c2=some (FZ o))->c2∉[Pt]:=λc2 ⟨o,e⟩ m=>by
   rw[Ai.mp m,hP]at e;cases e
  refine⟨.ref h'.objs.size,H',I.call (g':=s.gens) (d':=s.drawn) (t':=tk) (ch:=[]) un hok I.bare (λb z=>absurd z (by simp)),rfl,h _ c' ctv H' fF kp eF ⟨oc,vs,t,eC,hd,hv⟩ ⟨ps',eP,?_,λp v e=>?_⟩⟩
  ·have hl:ps'.toList=ps.toList++[rawInt pos.line,rawInt pos.col,.ref c']:=by simp[ps']
   rw[hl];exact TriplesOk_snoc _ _ _ _ ht
  ·have hl:ps'.toList=ps.toList++[rawInt pos.line,rawInt pos.col,.ref c']:=by simp[ps']
   rw[hl]at e
   rcases jkr _ ht e with e|rfl
   ·obtain⟨c2,e2,z⟩:=hin p v e
    exact⟨c2,e2,z.kp kp (nC c2 (let⟨oc,_,_,q,_⟩:=z;⟨oc,q⟩))⟩
   ·exact⟨c',rfl,oc,vs,t,eC,hd,hv⟩
end
theorem jnh{h:Heap}{c P:Addr}{ps:Array Value}(C:PySem.W.CodeHd h c P)(e:h.get? P=some (PySem.W.tabObj ps)):isCodeTable h P:=(C.tab e).isCodeTable
theorem jls{P:Program}{w:World}{K:PySem.W.Frag}{mg mb:Str->Option Value}{CX:CXT}{k:Nat}{fa a:Addr}{fd:FuncData}{x:Str}{sp:Sp}{s₁:Shared}{vs:List Value}{ns:List Int}{ts:List Addr}
  (KX:K.In s₁.heap) (hns:s₁.heap.Ns mainGlobals mg) (hb:s₁.heap.Ns builtinsNs mb) (hbb:∀x:Str,x≠"__name__"->mb x=bootBuiltins x) (hlim:s₁.heap.NoLimit) (hg:s₁.gens=#[])
  (ha:s₁.heap.get? a=some {cls:=.type "list",data:=.seq vs.toArray}) (hi:IntsAre vs ns) (hl:ns.length<=sizeLine) (hr:Room k callerA)
  (hts:∀t∈ts,s₁.heap.get? t=some (PySem.W.tabObj #[])) (hcd:∀t∈ts,∃c,PySem.W.CodeHd s₁.heap c t) (hKt:∀t∈ts,K.lookup t=none) (hbm:∀t∈ts,s₁.heap.BuiltinsAt mg t)
  (F:∀base:Heap,K.In base->base.Ns mainGlobals mg->(∀t∈ts,base.BuiltinsAt mg t)->FnOk P w K mg base CX k fa fd [x] sp) (hbind:∀(s:Shared)(u:Value),BindsTo s fd ⟨[u],[]⟩ [(x,u)])
  (hsp:∀H:Hp,SqL K H a (ns.map V.int)->(∀t∈ts,H t=some (.tbl #[]))->sp [.ref a] H (λv _=>v=.bl true) λ_ _ _=>False)
  (hCX:∀H e s',CX [] H s₁ (λ_ _ _=>False) e s'->False) :
  codeAny (model P w) callerA (.call (.ref fa) ⟨[.ref a],[]⟩) (λr s'=>r=.ok (.ret (.bool true))/\OldK s₁.heap s'.heap/\s'.os=s₁.os/\AllBare s'.gens) s₁:=by
 have rv:=jik hi
 have lenV:=hi.length
 have naT:a∉ts:=λm=>by
  have:=hts a m
  rw[ha]at this
  cases this
 have core:∀H:Hp,(∀b,H b=none\/(∃o xs,H b=some (.frz o (.lst xs)))\/b∈ts)->(∀t∈ts,H t=some (.tbl #[]))->SqL K H a (ns.map V.int)->HOk P w H s₁.heap->(∀b,H b≠none->b=a\/b∈ts)->(H a≠none->K.lookup a=none) ->
   codeAny (model P w) callerA (.call (.ref fa) ⟨[.ref a],[]⟩) (λr s'=>r=.ok (.ret (.bool true))/\OldK s₁.heap s'.heap/\s'.os=s₁.os/\AllBare s'.gens) s₁:=by
  intro H hO hT hS hok hA hK
  have base_of:∀{b:Addr}{o:Obj},s₁.heap.get? b=some o->H b=none->(hidT s₁.heap H).get? b=some o:=λe n=>jmm e n
  have noB:∀{b:Addr}{o:Obj},s₁.heap.get? b=some o->(∀vs n,o.data≠.seq vs n)->(∀vs,o.data≠.fields vs)->H b=none:=fun{b o} e d1 d2=>by
   cases q:H b with
   |none=>rfl
   |some u =>
    rcases hA b (by rw[q];simp)with e'|e'
    ·subst e'
     rw[ha]at e;cases e
     exact absurd rfl (d1 _ _)
    ·rw[hts b e']at e;cases e
     exact absurd rfl (d2 _)
  have nsK:∀{b:Addr}{m:Str->Option Value},s₁.heap.Ns b m->(hidT s₁.heap H).Ns b m:=fun{b m} ⟨o,es,ep,e,d,r⟩=>⟨o,es,ep,base_of e (noB e (by rw[d];nofun) (by rw[d];nofun)),d,r⟩
  have hKb:K.In (hidT s₁.heap H):=λb o e=>base_of (KX b o e) (by
   cases q:H b with
   |none=>rfl
   |some u =>
    rcases hA b (by rw[q];simp)with e'|e'
    ·subst e'
     rw[hK (by rw[q];simp)]at e;cases e
    ·rw[hKt b e']at e;cases e)
  have hBb:∀t∈ts,(hidT s₁.heap H).BuiltinsAt mg t:=λt ht=>let⟨bm,o,b1,b2,b3,b4,b5,b6,b7,b8⟩:=hbm t ht
   ⟨bm,o,b1,b2,b3,b4,base_of b5 (noB b5 (by rw[b8];nofun) (by rw[b8];nofun)),b6,b7,b8⟩
  have hM:Mod K mg (hidT s₁.heap H):=⟨hKb,nsK hns,⟨mb,nsK hb,hbb⟩,let⟨mc,h1,h2⟩:=hlim;⟨mc,nsK h1,h2⟩⟩
  have e0:Env0 P w K mg (hidT s₁.heap H) callerA [] s₁ H:=⟨rfl,hM,λb o e=>jnv e,Nat.le_of_eq (jll _ _),trivial,λb hb=>absurd (show b∈([]:List Addr)from hb) (by simp),hok,.of_eq hg⟩
  refine W8 ((F _ hKb (nsK hns) hBb).run callerA [] s₁ H ⟨[.ref a],[]⟩ [.ref a] [.ref a] _ _ hr e0 (hbind s₁ (.ref a)) (.cons rfl .nil) (hsp H hS hT)) λr s' h=>?_
  cases r with
  |error e=>exact(hCX H e s' h).elim
  |ok fl =>
   cases fl with
   |next=>exact False.elim h
   |brk=>exact False.elim h
   |cont=>exact False.elim h
   |ret u =>
    obtain⟨v,H',os,bare,un,hok',r',q⟩:=h
    have q':v=.bl true:=q
    subst q'
    obtain rfl:u=Value.bool true:=r'
    have grown:∀b∈ts,∃ps,s'.heap.get? b=some (PySem.W.tabObj ps):=λb m=>by
     obtain⟨more,e⟩:=un.tbls b #[] (hT b m)
     exact⟨_,hok' b _ e⟩
    have keep:∀b o,b∉ts->s₁.heap.get? b=some o->s'.heap.get? b=some o:=λb o m e=>by
     cases q:H b with
     |none=>exact un.keep b o e q (by intro z;exact absurd (show b∈([]:List Addr)from z) (by simp)) (by simp)
     |some u =>
      rcases hO b with z|⟨ob,xs,z⟩|z
      ·rw[q]at z;cases z
      ·have z2:=un.frzs b ob _ z
       obtain⟨e1,_⟩:=hok b _ z
       obtain⟨e2,_⟩:=hok' b _ z2
       rw[e]at e1;cases e1
       exact e2
      ·exact absurd z m
    refine⟨rfl,⟨λb o e=>?_,λb o e=>?_⟩,os,bare⟩
    ·by_cases m:b∈ts
     ·obtain⟨c,hc⟩:=hcd b m
      obtain⟨ps,hP⟩:=grown b m
      have e2:=hts b m
      rw[e]at e2
      cases A7 e2
      exact .inr (.inl ⟨jnh hc (hts b m),rfl,#[],ps,rfl,by rw[Array.empty_append];exact hP⟩)
     ·exact .inl (keep b o m e)
    ·by_cases m:b∈ts
     ·obtain⟨ps,hP⟩:=grown b m
      exact⟨_,hP⟩
     ·exact⟨o,keep b o m e⟩
 cases hk:K.lookup a with
 |some o =>
  have e:=KX a o hk
  rw[ha]at e
  cases e
  refine core (λb=>if b∈ts then some (.tbl #[])else none) (λb=>?_) (λt m=>Am m) (.inr ⟨_,vs.toArray,_,hk,rfl,rfl,rfl,by rw[Ia,lenV];exact hl,by simpa using rv⟩) (λb u z=>?_) (λb z=>?_) λz=>absurd (Ah naT) z
  ·by_cases m:b∈ts
   ·exact .inr (.inr m)
   ·exact .inl (Ah m)
  ·by_cases m:b∈ts
   ·have z':=(Am m).symm.trans z
    cases z'
    exact hts b m
   ·have z':=(Ah m).symm.trans z
    cases z'
  ·by_cases m:b∈ts
   ·exact .inr m
   ·exact absurd (Ah m) z
 |none =>
  refine core (λb=>if b∈ts then some (.tbl #[])else if b=a then some (.frz {cls:=.type "list",data:=.seq vs.toArray} (.lst (ns.map V.int)))else none) (λb=>?_) (λt m=>Am m) (.inl (.inr ⟨{cls:=.type "list",data:=.seq vs.toArray},(Ah naT).trans (Am rfl)⟩)) (λb u z=>?_) (λb z=>?_) λ_=>hk
  ·by_cases m:b∈ts
   ·exact .inr (.inr m)
   ·by_cases hb:b=a
    ·exact .inr (.inl ⟨_,_,(Ah m).trans (Am hb)⟩)
    ·exact .inl ((Ah m).trans (Ah hb))
  ·by_cases m:b∈ts
   ·have z':=(Am m).symm.trans z
    cases z'
    exact hts b m
   ·by_cases hb:b=a
    ·have z':=((Ah m).trans (Am hb)).symm.trans z
     cases z'
     subst hb
     exact⟨ha,by rw[Aa];exact hl,vs,_,rv,ha⟩
    ·have z':=((Ah m).trans (Ah hb)).symm.trans z
     cases z'
  ·by_cases m:b∈ts
   ·exact .inr m
   ·by_cases hb:b=a
    ·exact .inl hb
    ·exact absurd ((Ah m).trans (Ah hb)) z
theorem walk_ofT{l:PySem.W.OpenLaw}{n k:Nat}{q:Program}{loose:List Str}{XP:(Str->Option Value)->Heap->Prop}{YP:World->Heap->Prop}{d:DefRec}{K:Params->PySem.W.Frag}{CX:World->CXT}{sp:World->Sp}{x:Str}{ts:List Addr}
  (hn:l.most=some n) (hn2:n<=sizeLine) (hdf:d.params.defaults=[]) (hr:Room k callerA)
  (hY:∀(w:World)(h:Heap),YP w h->(K w.params).In h) (hT:∀(w:World)(h:Heap),YP w h->∀t∈ts,h.get? t=some (PySem.W.tabObj #[]))
  (hC:∀(w:World)(h:Heap),(K w.params).In h->∀t∈ts,∃c,PySem.W.CodeHd h c t) (hN:∀w:World,∀t∈ts,(K w.params).lookup t=none)
  (F:∀(w:World)(mg:Str->Option Value)(fa:Addr)(h:Heap),(K w.params).In h->h.Ns mainGlobals mg->mg d.name=some (.ref fa) ->
   ∃fd:FuncData,(∀(s:Shared)(u:Value),BindsTo s fd ⟨[u],[]⟩ [(x,u)]) /\
    ∀base:Heap,(K w.params).In base->base.Ns mainGlobals mg->(∀t∈ts,base.BuiltinsAt mg t)->FnOk l.prog w (K w.params) mg base (CX w) k fa fd [x] (sp w))
  (hsp:∀(w:World)(H:Hp)(a:Addr)(ns:List Int),ns.length<=n->SqL (K w.params) H a (ns.map V.int)->(∀t∈ts,H t=some (.tbl #[]))->sp w [.ref a] H (λv _=>v=.bl true) λ_ _ _=>False)
  (hCX:∀(w:World)(H:Hp)(s:Shared)(e:Value)(s':Shared),CX w [] H s (λ_ _ _=>False) e s'->False) :
  PySem.W.WalkO q loose XP YP l.row.toRowW d [] (λf vs=>PySem.call f vs):=by
 refine Att.attach_call hn hdf λw s₀ s₁ mg mb fa o pm cd doc a vs ns G Y ho hd hcd hmg hobj hints hlen hg=>?_
 have KX:=hY w _ Y
 have TX:=hT w _ Y
 obtain⟨fd,hb,hF⟩:=F w mg fa _ KX G.T.g hmg
 refine jls (ts:=ts) KX G.T.g G.T.b G.T.builtins G.T.nolimit hg hobj hints (Io hlen hn2) hr TX (hC w _ KX) (hN w) (λt ht=>?_) hF hb (λH hS hT=>hsp w H a ns hlen hS hT) λH e s'=>hCX w H s₁ e s'
 obtain⟨bm,ob,b1,b2,b3,b4,b5,b6⟩:=G.T.bmain
 refine⟨bm,ob,b1,b2,λq=>?_,λq=>?_,b3,b4,b5,b6⟩
 ·obtain⟨o,es,ep,e,hd,_⟩:=G.T.g
  rw[q,e]at b3;cases b3;rw[hd]at b6;cases b6
 ·rw[q,TX t ht]at b3;cases b3;cases b4
section
variable{X:Cx}{o i:Expr}{td ty:TE}{pos:Pos}
theorem qpe_callD{P:Program}{w:World}{K:PySem.W.Frag}{mg:Str->Option Value}{base:Heap}(hP:X.prog=P)(hw:X.w=w)(hK:X.K=K)(hM:X.mg=mg)(hB:X.base=base){k:Nat}{x:Str}{p pos:Pos}{e:Expr}{es:List Expr}{t:TA}(i:Nat)(hr:Room k X.A)(ha:QA X (e::es) t)
  (hN:X.N[i]?=some x:=by rfl) (hv:Vis X.env.scope x:=by first|exact Or.inl rfl|exact Or.inr (Or.inl rfl)|exact Or.inr (Or.inr rfl))
  (hdb:(x == ("__debug__":Str))=false:=by decide) (hcd:(x == ("__classdict__":Str))=false:=by decide) (he:starEach (e::es) X.env=(false,eval e X.env)::starEach es X.env:=by rfl) :
  QE X (.Call (.Name x p) (e::es) [] pos) (jc6 P w K mg base k i t):=⟨pe_callD hP hw hK hM hB i hr ha.h hN hv hdb hcd he⟩
theorem qpe_lambda{params:Arguments}{body:Expr}{scope:Scope}{pos:Pos}{c Pt:Addr}{cl:List (Str×Addr)}{qual:Str}{pm:Value}(hq:X.env.qual++"<lambda>"=qual)(hpm:(X.mg "__name__").getD .none=pm)(hcode:X.env.code=.ref c)(hC:PySem.W.CodeHd X.base c Pt)(hbt:X.base.BuiltinsAt X.mg Pt)
  (hdef:defaultsOf params X.env=([],[]):=by rfl) (hcl:closureFor scope X.env=pure cl:=by rfl):QE X (.Lambda params body scope pos) (tLam Pt qual params body scope cl pm):=by
 subst hq;subst hpm
 exact⟨pe_lambda hdef hcl hcode hC hbt⟩
end
theorem Caps.kp{S:List Addr}{H H':Hp}{cl:List (Str×Addr)}{fs:List Str}{ws:List V}(k:Kp S H H')(n:∀p∈cl,p.2∉S)(c:Caps H cl fs ws):Caps H' cl fs ws :=
 ⟨c.len,λi x v e1 e2=>let⟨a,o,u,h1,h2,h3,h4⟩:=c.at_ i x v e1 e2;⟨a,o,u,h1,k.old _ _ h2 (n (x,a) (Ot h1)),h3,h4⟩,c.has,λp hp=>let⟨o,u,e,d⟩:=c.fz p hp;⟨o,u,k.old _ _ e (n p hp),d⟩,c.inj⟩
theorem TabOk.kp{S:List Addr}{H H':Hp}{Pt:Addr}{qual:Str}(k:Kp S H H')(n:Pt∉S)(hc:∀c o,H c=some (FZ o)->c∉S)(x:TabOk H Pt qual):TabOk H' Pt qual :=
 let⟨ps,e,t,h⟩:=x
 ⟨ps,k.old _ _ e n,t,λp v q=>let⟨c,e2,z⟩:=h p v q;⟨c,e2,z.kp k (let⟨oc,_,_,q,_⟩:=z;hc c oc q)⟩⟩
structure FunD(K:PySem.W.Frag)(x qual:Str)(st:Stmt)(f:Addr)(fd:FuncData)(td:Addr):Prop where
 ex:∃(oc:Value)(od:Option Addr)(kV doc pm:Value)(an:Option Addr)(cdv ct:Value)(osl:Array (Option Value)),
  fd=PySem.W.fnOf x qual (j6 st) (jt st) (jh st) (.ref td) kV doc pm an cdv ct/\K.lookup f=some ⟨oc,od,.func fd,osl⟩/\PySem.W.codeIn K cdv qual=true
 kp:PySem.W.keepIn K (.ref f)=true
section
variable{P:Program}{w:World}{K:PySem.W.Frag}{mg:Str->Option Value}{base:Heap}{x qual:Str}{st:Stmt}{f td:Addr}{fd:FuncData}{N ps:List Str}{k:Nat}{sp:Sp}
theorem FunD.ok(F:FunD K x qual st f fd td)(S:FnScope N ps (jh st))(len:∀vs H Q E,sp vs H Q E->vs.length=ps.length)
  (hbody:∀(cdv:Value)(A:Around)(outer:List Env)(s:Shared)(H:Hp)(vs:List V)(Q:VK)(E:XK),Room k (A.deeper (envOfC qual (jh st) s.heap.objs.size f cdv))->sp vs H Q E ->
   ∃t,PSs (cxOf CX0 P w K mg base N qual (jh st) f cdv A outer s H E).nox (jt st) t/\t {nx:=λ_ H'=>Q .non H',rt:=Q} (start N vs) H):FnOk P w K mg base CX0 (k+1) f fd ps sp:=by
 obtain⟨oc,od,kV,doc,pm,an,cdv,ct,osl,rfl,lk,hcd⟩:=F.ex
 refine jip lk hcd S len λA outer s H vs Q E hr hsp=>?_
 obtain⟨t,h,q⟩:=hbody cdv A outer s H vs Q E hr hsp
 exact⟨t,h.nox,q⟩
theorem FunD.binds{ds:List Value}{o:Obj}{items:Array Value}{n:Nat}(F:FunD K x qual st f fd td)(lk:K.lookup td=some o)(hs:o.data=.seq items n)
  (h:∀(kV doc pm:Value)(an:Option Addr)(cdv ct:Value)(us:List Value),(us++ds).length=ps.length->∃g,bindArgs (PySem.W.fnOf x qual (j6 st) (jt st) (jh st) (.ref td) kV doc pm an cdv ct) ⟨us,[]⟩=(seqItems? (.ref td) >>= g)/\g (some items)=pure (ps.zip (us++ds))):Binds K fd ps ds:=by
 obtain⟨oc,od,kV,doc,pm,an,cdv,ct,osl,rfl,_,_⟩:=F.ex
 intro s us hK hl
 obtain⟨g,h1,h2⟩:=h kV doc pm an cdv ct us hl
 exact BindsTo.of_defaults (T:=td) rfl (hK _ _ lk) hs h1 h2
theorem jj7{oc:Value}{od an:Option Addr}{osl:Array (Option Value)}{kV doc pm cdv ct:Value}(l:K.lookup f=some ⟨oc,od,.func (PySem.W.fnOf x qual (j6 st) (jt st) (jh st) (.ref td) kV doc pm an cdv ct),osl⟩)
  (c:PySem.W.codeIn K cdv qual=true) (k:PySem.W.keepIn K (.ref f)=true):FunD K x qual st f (PySem.W.fnOf x qual (j6 st) (jt st) (jh st) (.ref td) kV doc pm an cdv ct) td:=⟨⟨oc,od,kV,doc,pm,an,cdv,ct,osl,rfl,l,c⟩,k⟩
end
section
variable{X:Cx}
def Mono(t:TE):Prop:=∀σ H (Q Q':VK),(∀v H',Q v H'->Q' v H')->t σ H Q->t σ H Q'
theorem joo(i:Nat):Mono (tVar i):=jd3
theorem jnu{a b:TE}(ha:Mono a)(hb:Mono b):Mono (tOp rIxU a b):=λσ H Q Q' h q=>ha σ H _ _ (λx H1 q1=>hb σ H1 _ _ (λy H2 q2=>by
 unfold rIxU at q2⊢
 split at q2
 ·exact⟨q2.1,let⟨c,e,q3⟩:=q2.2;⟨c,e,h _ _ q3⟩⟩
 ·exact let⟨xs,e,v,e2,q3⟩:=q2;⟨xs,e,v,e2,h _ _ q3⟩
 ·exact q2.elim) q1) q
end
section
variable{X:Cx}{pins:List (Addr×Obj)}{σ:St}{H:Hp}{s:Shared}
theorem jmv{k:Nat}{f:Addr}{fd:FuncData}{ps:List Str}{sp:Sp}{Q:VK}{us ds:List Value}{vs dvs:List V}{cs:List (Addr×Obj)}(F:FnOk X.prog X.w X.K X.mg X.base CX0 k f fd ps sp)(hr:Room k X.A)(hb:Binds X.K fd ps ds)(hd:Vals dvs ds)
  (I:Inv X pins σ H s) (r:Vals vs us) (hc:∀b o,cs.lookup b=some o->s.heap.get? b=some o/\H b=none/\X.base.get? b=none/\b∉frs X.stack)
  (h:sp (vs++dvs) (jei H cs) (λv H2=>Q v (hideC H2 (cs.map Prod.fst))) E0):wpAny (model X.prog X.w) X.A (call (.ref f) us) (EP X pins σ Q) X.xe s:=by
 have r2:Vals (vs++dvs) (us++ds):=r.append hd
 have hl:(us++ds).length=ps.length:=by rw[<-r2.length];exact F.len _ _ _ _ h
 refine wpAny_call (W8 (F.run X.A X.stack s (jei H cs) ⟨us,[]⟩ (us++ds) (vs++dvs) _ E0 hr (I.env0C hc) (hb s us I.kIn hl) r2 h) λr s' hq=>?_)
 cases r with
 |error e=>exact False.elim hq
 |ok fl =>
  cases fl with
  |ret u =>
   obtain⟨v,H',os,bare,un,hok,rv,q⟩:=hq
   refine I.after ⟨v,_,os,bare,Un.hideS un hok λb o z=>⟨(hc b o z).1,(hc b o z).2.1⟩,HOk.hideC hok λc m=>?_,rv,q⟩
   obtain⟨o,z⟩:=jhf m
   exact⟨o,un.frzs c o _ (jfg z)⟩
  |next=>exact False.elim hq
  |brk=>exact False.elim hq
  |cont=>exact False.elim hq
def jdr(js:List (Nat×Addr))(sp:Sp)(dvs:List V)(t:TA):TE:=λσ H Q=>t σ H λvs H1=>(∀j∈js,∃v,σ[j.1]?=some (some v))/\∀cs,jjy σ H1 js cs->sp (vs++dvs) (jei H1 cs) (λv H2=>Q v (hideC H2 (cs.map Prod.fst))) E0
theorem qpe_callCD{k:Nat}{f:Addr}{fd:FuncData}{ps:List Str}{sp:Sp}{x:Str}{p pos:Pos}{e:Expr}{es:List Expr}{t:TA}{ds:List Value}{dvs:List V}(js:List (Nat×Addr))(hjs:∀j∈js,∃x,X.N[j.1]?=some x/\X.env.kindOf x=some .cell/\X.fn x=true/\X.env.cells.lookup x=some j.2)
  (F:FnOk X.prog X.w X.K X.mg X.base CX0 k f fd ps sp) (hr:Room k X.A) (hg:Gl X x) (hm:X.mg x=some (.ref f)) (hk:PySem.W.keepIn X.K (.ref f)=true) (hb:Binds X.K fd ps ds) (hd:Vals dvs ds) (ha:QA X (e::es) t)
  (hdb:(x == ("__debug__":Str))=false:=by decide) (he:starEach (e::es) X.env=(false,eval e X.env)::starEach es X.env:=by rfl) (hpl:(backTo pos (starEach es X.env)).any (·.1)=false:=by rfl) :
  QE X (.Call (.Name x p) (e::es) [] pos) (jdr js sp dvs t):=by
 refine⟨λpins s σ H Q I h=>?_⟩
 refine Uc (je9 I hg hm ?_ hdb)
 refine Ye (h₀:=X.base) I.ok.mod.kin hk (thn (ha.h pos pins s σ H _ I h) λus s1 ⟨vs,H1,I1,r,hb1,q⟩=>⟨I1.kIn,?_⟩) he hpl
 obtain⟨cs,pr,hc⟩:=jiz I1 hjs hb1
 exact jmv F hr hb hd I1 r hc (q cs pr)
end
theorem FunD.okC{P:Program}{w:World}{K:PySem.W.Frag}{mg:Str->Option Value}{base:Heap}{x qual:Str}{st:Stmt}{f td:Addr}{fd:FuncData}{N ps:List Str}{k:Nat}{sp:Sp}(F:FunD K x qual st f fd td)(S:FnScope N ps (jh st))(len:∀vs H Q E,sp vs H Q E->vs.length=ps.length)
  (hbody:∀(A:Around)(outer:List Env)(s:Shared)(H:Hp)(vs:List V)(Q:VK)(E:XK),Room k (A.deeper (envOfC qual (jh st) s.heap.objs.size f fd.code))->sp vs H Q E ->
   ∃t,PSs (cxOf CX0 P w K mg base N qual (jh st) f fd.code A outer s H E).nox (jt st) t/\t {nx:=λ_ H'=>Q .non H',rt:=Q} (start N vs) H):FnOk P w K mg base CX0 (k+1) f fd ps sp:=by
 obtain⟨oc,od,kV,doc,pm,an,cdv,ct,osl,rfl,lk,hcd⟩:=F.ex
 refine jip lk hcd S len λA outer s H vs Q E hr hsp=>?_
 obtain⟨t,h,q⟩:=hbody A outer s H vs Q E hr hsp
 exact⟨t,h.nox,q⟩
section
variable{prog:Program}{w:World}{A:Around}{E:Value->Shared->Prop}{s:Shared}
theorem jl1{bs:List Addr}{vs:List Value}(h:vs.Perm (bs.map Value.ref)):∃bs':List Addr,bs'.Perm bs/\vs=bs'.map Value.ref:=by
 let f:Value->Addr:=λv=>match v with|.ref b=>b|_=>0
 refine⟨vs.map f,?_,?_⟩
 ·have:=h.map f
  rw[Oq]at this
  exact this.trans (by rw[show(f∘Value.ref)=id from rfl,Wz])
 ·rw[Oq]
  refine((Om λv hv=>?_).trans (Wz _)).symm
  obtain⟨b,_,rfl⟩:=Ij.mp (h.mem_iff.mp hv)
  rfl
end
section
variable{K:Type}[DecidableEq K](lt:K->K->Bool)
def jeh:List K->List K->Bool
 |[],[]=>false
 |[],_::_=>true
 |_::_,[]=>false
 |x::xs,y::ys=>if x=y then jeh xs ys else lt x y
theorem jib:∀a,jeh lt a a=false
 |[]=>rfl
 |x::a=>by unfold jeh;rw[Am rfl];exact jib a
theorem jic(ht:∀a b,lt a b=false->lt b a=false->a=b):∀a b,jeh lt a b=false->jeh lt b a=false->a=b
 |[],[],_,_=>rfl
 |[],_::_,h,_=>by cases h
 |_::_,[],_,h=>by cases h
 |x::a,y::b,h1,h2=>by
  unfold jeh at h1 h2
  by_cases c:x=y
  ·rw[Am c]at h1;rw[Am c.symm]at h2
   rw[c,jic ht a b h1 h2]
  ·rw[Ah c]at h1;rw[Ah λz=>c z.symm]at h2
   exact absurd (ht _ _ h1 h2) c
theorem jja(hi:∀a,lt a a=false)(ht:∀a b c,lt a b=true->lt b c=true->lt a c=true):∀a b c,jeh lt a b=true->jeh lt b c=true->jeh lt a c=true
 |[],[],c,h,_=>by cases h
 |_::_,[],_,h,_=>by cases h
 |[],_::_,[],_,h=>by cases h
 |[],_::_,_::_,_,_=>rfl
 |_::_,_::_,[],_,h=>by cases h
 |x::a,y::b,z::c,h1,h2=>by
  unfold jeh at h1 h2⊢
  by_cases e1:x=y
  ·subst e1
   rw[Am rfl]at h1
   by_cases e2:x=z
   ·rw[Am e2]at h2⊢;exact jja hi ht a b c h1 h2
   ·rw[Ah e2]at h2⊢;exact h2
  ·rw[Ah e1]at h1
   by_cases e2:y=z
   ·subst e2;rw[Ah e1];exact h1
   ·rw[Ah e2]at h2
    have:=ht _ _ _ h1 h2
    by_cases e3:x=z
    ·subst e3;rw[hi]at this;cases this
    ·rw[Ah e3];exact this
end
section
variable{prog:Program}{w:World}{A:Around}{E:Value->Shared->Prop}{s:Shared}
def ltI(a b:Int):Bool:=decide (a<b)
def lxI:List Int->List Int->Bool:=jeh ltI
theorem jka(a:List Int):lxI a a=false:=jib ltI a
theorem jkb(a b:List Int)(h1:lxI a b=false)(h2:lxI b a=false):a=b:=jic ltI (λa b h1 h2=>by unfold ltI at h1 h2;have:=of_decide_eq_false h1;have:=of_decide_eq_false h2;omega) a b h1 h2
theorem jlv(a b c:List Int)(h1:lxI a b=true)(h2:lxI b c=true):lxI a c=true:=jja ltI (λa=>by simp[ltI]) (λa b c h1 h2=>by unfold ltI at *;have:=of_decide_eq_true h1;have:=of_decide_eq_true h2;exact decide_eq_true (by omega)) a b c h1 h2
theorem jom{a b c:List Int}(h1:lxI b a=false)(h2:lxI c b=false):lxI c a=false:=by
 cases h:lxI c a with
 |false=>rfl
 |true =>
  cases h3:lxI a b with
  |true=>rw[jlv c a b h h3]at h2;cases h2
  |false=>rw[jkb a b h3 h1,h2]at h;cases h
theorem ji9{fin:Bool}{Q:Bool->Shared->Prop}:∀{k k':List Int}{l l':List Value}(i:Nat),ItemsAre (jd0 prog w) (inK k) l->ItemsAre (jd0 prog w) (inK k') l'->fin=decide (k.length<k'.length)->Q (lxI k k') s->PySem.W.KatLex prog w A true fin Q (l.zip l') i s
 |[],[],_,_,i,h1,h2,e,q=>by cases h1;cases h2;rw[e];simpa[PySem.W.KatLex,lxI,jeh]using q
 |[],_::_,_,_,i,h1,h2,e,q=>by cases h1;rw[e];simpa[PySem.W.KatLex,lxI,jeh]using q
 |_::_,[],_,_,i,h1,h2,e,q=>by cases h2;rw[e,List.zip_nil_right];simpa[PySem.W.KatLex,lxI,jeh]using q
 |x::k,y::k',_,_,i,h1,h2,e,q=>by
  cases h1 with
  |cons g1 r1 =>
   cases h2 with
   |cons g2 r2 =>
    obtain⟨t,rfl⟩:=Wu (k:=x) (show je8 (Sum.inl x) _=true from g1)
    obtain⟨u,rfl⟩:=Wu (k:=y) (show je8 (Sum.inl y) _=true from g2)
    refine PySem.W.kat_cons (wpAny_eqBool_int (PySem.W.kat_go (λc=>PySem.W.kat_yes (ji9 (i+1) r1 r2 (by rw[e];simp) ?_)) λc=>PySem.W.kat_no ?_))
    ·rw[lxI,jeh,Am (by simpa using c)]at q;exact q
    ·rw[lxI,jeh,Ah (by simpa using c)]at q
     cases hb:(true && i == 0)with
     |true=>exact oneLt_int q
     |false=>exact PySem.W.kat_one _ _ (PyProof.Rows.lt_int q)
theorem jnt{k k':List Int}{x y:Addr}{Q:Bool->Shared->Prop}(hx:IsTK prog w s.heap k x)(hy:IsTK prog w s.heap k' y)(q:Q (lxI k k') s):wpAny (model prog w) A (keyLt' (tuples' true) (.ref x) (.ref y)) Q E s:=by
 obtain⟨ox,xs,n,h1,_,d1,i1⟩:=hx
 obtain⟨oy,ys,m,h2,_,d2,i2⟩:=hy
 refine PySem.W.kat_lt h1 d1 h2 d2 (ji9 0 i1 i2 ?_ q)
 have l1:=i1.length
 have l2:=i2.length
 simp only[inK,Aa,Array.length_toList]at l1 l2
 rw[l1,l2]
def kOf(kf:Addr->List Int)(x:Keyed):List Int:=match x.1 with|.ref b=>kf b|_=>[]
theorem jnw{h:Heap}{bs:List Addr}{kf:Addr->List Int}(A:Around)(ht:jgz prog w h bs kf):Ord1 (model prog w) A {s with heap:=h} (tuples' true) (λx=>∃b∈bs,x=two (.ref b)) (λx y b=>b=lxI (kOf kf x) (kOf kf y)) (λx y=>lxI (kOf kf y) (kOf kf x)=false):=by
 refine⟨λx y C hx hy q=>?_,λx y h=>?_,λx y h=>h.symm,λx=>jka _,λ_ _ _ h1 h2=>jom h1 h2⟩
 ·obtain⟨a,ha,rfl⟩:=hx
  obtain⟨b,hb,rfl⟩:=hy
  exact jnt (s:={s with heap:=h}) (ht a ha).1 (ht b hb).1 (q _ rfl)
 ·cases h2:lxI (kOf kf y) (kOf kf x)with
  |false=>rfl
  |true=>have:=jlv _ _ _ h.symm h2;rw[jka]at this;cases this
def SrI(ks:List (List Int)):Prop:=ks.Pairwise λa b=>lxI b a=false
theorem SrI.one{xs ys:List (List Int)}(hx:SrI xs)(hy:SrI ys)(p:xs.Perm ys):xs=ys:=by
 induction xs generalizing ys with
 |nil=>exact(List.nil_perm.mp p).symm
 |cons x xs ih =>
  cases ys with
  |nil=>exact absurd (List.perm_nil.mp p) (by simp)
  |cons y ys =>
   have hx':=U1.mp hx
   have hy':=U1.mp hy
   have e:x=y:=by
    rcases Il.mp (p.mem_iff.mp (.head _):x∈y::ys)with e|m
    ·exact e
    rcases Il.mp (p.mem_iff.mpr (.head _):y∈x::xs)with e|m'
    ·exact e.symm
    exact jkb _ _ (hy'.1 x m) (hx'.1 y m') |>.symm▸rfl
   subst e
   rw[ih hx'.2 hy'.2 ((List.perm_cons _).mp p)]
end
section
variable{X:Cx}
def jms:List V->Hp->VK->Prop:=λxs H Q=>∃(l:Addr)(bs:List Addr)(kf:Addr->List Int),xs=[.ref l]/\H l=some (.lst (bs.map V.ref))/\(∀b∈bs,H b=some (.tup ((kf b).map V.int))/\kf b≠[])/\bs.length<=100000/\∀(p:Addr)(bs':List Addr),H p=none->bs'.Perm bs->SrI (bs'.map kf)->Q (.ref p) (upd H p (.lst (bs'.map V.ref)))
theorem jag:jeb X (.builtin "sorted") jms:=by
 intro pins s σ H xs us Q I r h
 obtain⟨l,bs,kf,rfl,e,hb,hl,q⟩:=h
 obtain⟨u,rfl,ru⟩:=jet r
 cases ru
 obtain⟨its,rr,pl,hz⟩:=I.list (SqL.of e)
 have ei:=jie rr
 subst ei
 have hsz:sizeLine=16777216:=sizeLine_eq
 refine Calls.call_function_entry kind_sorted plain_sorted entry_sorted (args_sorted1 _) ?_
 unfold Builtin.«sorted»
 refine Ac (m:=checkCount "sorted" 1 1 _) (A5 (Ac (collect_list pl.isList ?_ (by rw[Aa,hsz];omega))))
 refine Ac (wpAny_newList ?_ (by rw[Aa,hsz];omega))
 have k1:∀b o,s.heap.get? b=some o->((s.heap.push (seqObj "list" #[] 0)).update s.heap.objs.size (Obj.mapSeq (·++(bs.map Value.ref).toArray))).get? b=some o:=λb o e=>(Og _ _ (Wo (A6 e))).trans (Ad _ e)
 have z1:s.heap.objs.size<=((s.heap.push (seqObj "list" #[] 0)).update s.heap.objs.size (Obj.mapSeq (·++(bs.map Value.ref).toArray))).objs.size:=by rw[Heap.size_update,size_push'];omega
 generalize(s.heap.push (seqObj "list" #[] 0)).update s.heap.objs.size (Obj.mapSeq (·++(bs.map Value.ref).toArray))=h1 at k1 z1⊢
 have hD:(h1.push (seqObj "list" (bs.map Value.ref).toArray 0)).get? h1.objs.size=some (seqObj "list" (bs.map Value.ref).toArray 0):=Ir _ rfl
 have k2:∀b o,s.heap.get? b=some o->(h1.push (seqObj "list" (bs.map Value.ref).toArray 0)).get? b=some o:=λb o e=>Ad _ (k1 b o e)
 have ht:jgz X.prog X.w s.heap bs kf:=λb hb'=>⟨jo5 I.hok (hb b hb').1,(hb b hb').2⟩
 refine Ac (O9 (wpAny_call_entry slot_list_sort ⟨_,hD,rfl⟩ entry_list_sort (jk2 (s:={s with heap:=h1.push (seqObj "list" (bs.map Value.ref).toArray 0)}) (κ:=tuples' true) (U:=λx=>∃b∈bs,x=two (.ref b)) (An:=λx y b=>b=lxI (kOf kf x) (kOf kf y)) (Le:=λx y=>lxI (kOf kf y) (kOf kf x)=false) hD (by rw[Aa];omega) (λv hv=>?_) (λh2 k3 l2=>?_) λh2 vs' c hp so e2 kk=>⟨_,rfl,?_⟩) (args_list_sort _)))
 ·obtain⟨b,hb,rfl⟩:=Ij.mp hv
  exact⟨b,hb,rfl⟩
 ·have ht2:jgz X.prog X.w h2 bs kf:=λb hb=>⟨jn3 (ht b hb).1 λo e=>k3 _ _ (Ip (Ig (A6 e) z1)) (k2 b o e),(ht b hb).2⟩
  exact⟨jnw _ ht2,λC q=>jlr (s:={s with heap:=h2}) ht2 (by simpa using l2) q⟩
 ·obtain⟨bs',hp',rfl⟩:=jl1 hp
  have bl:bs'.length=bs.length:=hp'.length_eq
  have sn:SrI (bs'.map kf):=by
   unfold SrI
   rw[Oq,O5]at so
   rw[O5]
   exact so
  refine A5 ⟨_,rfl,.ref h1.objs.size,upd H h1.objs.size (.lst (bs'.map V.ref)),I.laid (t':=s.toks) (λb o e=>kk b o (Ip (Ig (A6 e) z1)) (k2 b o e)) z1 ⟨by rw[Aa];omega,bs'.map Value.ref,c,jkn bs',e2⟩,rfl,q _ bs' (I.hok.fresh z1) hp' sn⟩
def jnf(K:PySem.W.Frag)(T:Addr)(i j:Nat)(tc:TT)(sp:Sp)(t:TA)(sp2:Sp)(t2:TA)(ts:TS):TS:=λEn σ H=>tc σ H λb H0=>match b with
 |true=>t σ H0 λvs H1=>sp (vs++[]) H1 (λv H2=>En.nx (σ.set i (some v)) H2) (hdl K T j ts En σ)
 |false=>t2 σ H0 λvs H1=>sp2 (vs++[]) H1 (λv H2=>En.nx (σ.set i (some v)) H2) (hdl K T j ts En σ)
theorem qps_tryI{K:PySem.W.Frag}{T:Addr}{i j:Nat}{y n tn:Str}{p1 p4 p5 p6 p7:Pos}{suite:List Stmt}{b₀:Stmt}{ts:TS}{c:Expr}{tc:TT}{k:Nat}{f:Addr}{fd:FuncData}{ps:List Str}{sp:Sp}{x:Str}{p pos:Pos}{e:Expr}{es:List Expr}{t:TA}
  {k2:Nat}{f2:Addr}{fd2:FuncData}{ps2:List Str}{sp2:Sp}{x2:Str}{p2 pos2 q1 q4 q7:Pos}{e2:Expr}{es2:List Expr}{t2:TA} (hK:X.K=K) (hc:QT X c tc)
  (F:FnOk X.prog X.w K X.mg X.base (CXE X.prog X.w) k f fd ps sp) (hr:Room k X.A) (hg:Gl X x) (hm:X.mg x=some (.ref f)) (hk:PySem.W.keepIn K (.ref f)=true) (hb:Binds K fd ps []) (ha:QA X (e::es) t)
  (F2:FnOk X.prog X.w K X.mg X.base (CXE X.prog X.w) k2 f2 fd2 ps2 sp2) (hr2:Room k2 X.A) (hg2:Gl X x2) (hm2:X.mg x2=some (.ref f2)) (hk2:PySem.W.keepIn K (.ref f2)=true) (hb2:Binds K fd2 ps2 []) (ha2:QA X (e2::es2) t2)
  (xt:XT K T) (hgT:Gl X tn) (hmT:X.mg tn=some (.ref T)) (hst:∀A',A'.frames=X.A.frames->A'.depth=X.A.depth->A'.units=X.A.units->A'.guards=X.A.guards->QSs (X.late A') (b₀::suite) ts)
  (hs:X.stack=X.env::X.outer/\X.env.frame=some X.env.locals) (hx:X.ex=[]) (hxe:∀e s,¬X.xe e s) (hN:X.N.Nodup) (hi:X.N[i]?=some y) (hy:X.env.scope.names.lookup y=some .local) (hj:X.N[j]?=some n) (hl:X.env.scope.names.lookup n=some .local)
  (hdT:(tn == ("__debug__":Str))=false:=by decide) (hdb:(x == ("__debug__":Str))=false:=by decide) (hdb2:(x2 == ("__debug__":Str))=false:=by decide) (he:starEach (e::es) X.env=(false,eval e X.env)::starEach es X.env:=by rfl) (hpl:(backTo pos (starEach es X.env)).any (·.1)=false:=by rfl)
  (he2:starEach (e2::es2) X.env=(false,eval e2 X.env)::starEach es2 X.env:=by rfl) (hpl2:(backTo pos2 (starEach es2 X.env)).any (·.1)=false:=by rfl)
  (hsw:swapsWith (.Call (.Name x p) (e::es) [] pos) (some (.Name y p1)) p4.line X.env=pure false:=by rfl) (hsw2:swapsWith (.Call (.Name x2 p2) (e2::es2) [] pos2) (some (.Name y q1)) q4.line X.env=pure false:=by rfl) :
  QS X (.Try [.If c [.Assign [.Name y p1] (.Call (.Name x p) (e::es) [] pos) p4] [.Assign [.Name y q1] (.Call (.Name x2 p2) (e2::es2) [] pos2) q4] q7] [.ExceptHandler (some (.Name tn p5)) (some n) (b₀::suite) p6] [] [] p7) (jnf K T i j tc sp t sp2 t2 ts):=by
 subst hK
 refine⟨λpins s σ H En I h=>?_⟩
 refine jmx hs hx hxe hN hj hl xt hgT hmT hdT (λA' h1 h2 h3 h4=>(hst A' h1 h2 h3 h4).h) I ?_
 refine Uu (wpAny_If (Ol (hc.h pins s σ H _ I h) (λd s1 ⟨H1,I1,q1⟩=>?_) λe s z=>absurd z (hxe e s)))
 cases d with
 |true =>
  refine Uu (wpAny_Assign_Name (Ol (jbp (σ:=σ) F hr hg hm hk hb .nil ha.h hx hxe I1 q1 (λa C dx H' s' I' f' q=>⟨a,C,dx,H',σ,rfl,I',f',q⟩) hdb he hpl) (λv s1 ⟨z,H1,I1,r1,q1⟩=>?_) λ_ _ z=>z) hsw)
  exact je2 I1 hN hi (.inl hy) r1 (λs2 I2=>O6 (O6 ⟨_,H1,I2,q1⟩)) (.inr hy)
 |false =>
  refine Uu (wpAny_Assign_Name (Ol (jbp (σ:=σ) F2 hr2 hg2 hm2 hk2 hb2 .nil ha2.h hx hxe I1 q1 (λa C dx H' s' I' f' q=>⟨a,C,dx,H',σ,rfl,I',f',q⟩) hdb2 he2 hpl2) (λv s1 ⟨z,H1,I1,r1,q1⟩=>?_) λ_ _ z=>z) hsw2)
  exact je2 I1 hN hi (.inl hy) r1 (λs2 I2=>O6 (O6 ⟨_,H1,I2,q1⟩)) (.inr hy)
end
theorem qpe_revT{X:Cx}{e:Expr}{te:TE}{p1 p2 p3 p4:Pos}{k:Nat}(he:QE X e te)(ht:∀z t r,letTemporaryGo e (.str z t) r=pure ():=by intro _ _ _;with_unfolding_all rfl) :
  QE X (.Subscript e (.Slice none none (some (.UnaryOp .USub (.Constant (.int 1) k p1) p2)) p3) p4) (jdn te):=⟨by
 intro pins s σ H Q I h
 refine Subscript_ (thn (he.h pins s σ H _ I h) λv s1 ⟨x,H1,I1,r1,q1⟩=>?_)
 obtain⟨z,rfl,hz,q⟩:=q1
 obtain⟨t,rfl⟩:=r1
 refine wpAny_Slice ?_
 rw[evalPart_none,evalPart_some]
 refine A5 (A5 (UnaryOp_ (wpAny_Constant_int (neg_int ?_))))
 refine tail_of_ItemOn ⟨"str",_,F.slot_str_getitem.lookup,typeIs_str _ _ _,wpAny_getItem_str_slice (l:=none) (u:=none) (st:=some (-1,_)) ⟨_,Ir _ rfl,rfl,rfl⟩ (by rfl)
  (post_val_or_str ⟨Io (Txt.sliceBy_le z _ _ (-1,_) (by simp)) hz,λt' c=>?_⟩)⟩ (by with_unfolding_all rfl) (ht _ _)
 exact⟨.str (revS z),H1,I1.kept (λb o e=>Ad _ e),⟨t',Uh (Value.str · t') (jl2 z _)⟩,q⟩⟩
end L2
namespace My
open PySem
def toS(l:List Nat):Str:=⟨l.toArray⟩
theorem jkk(l:List Nat)(c:Nat):toS l++(⟨#[c]⟩:Str)=toS (l++[c]):=by
 show(⟨l.toArray++#[c]⟩:Str)=⟨(l++[c]).toArray⟩
 simp
theorem jga(l:List Nat):(toS l).length=l.length:=by simp[toS,Str.length]
end My
namespace My
theorem jhk{α:Type}{P:List α->Prop}(h0:P [])(h1:∀l a,P l->P (l++[a]))(l:List α):P l:=by
 have:∀n (l:List α),l.length=n->P l:=by
  intro n
  induction n with
  |zero=>intro l h;have:=Op.mp h;subst this;exact h0
  |succ n ih =>
   intro l h
   rcases Uf l with rfl|⟨w,b,rfl⟩
   ·simp at h
   ·rw[Ug]at h⊢
    exact h1 w b (ih w (by simpa using h))
 exact this _ l rfl
section
variable(L:Nat)
def cd:List Nat->Nat:=List.foldl (λc a=>c*L+a+1) 0
def Ov(w:List Nat):Prop:=∀a∈w,a<L
variable{L}
theorem jg5:cd L []=0:=rfl
theorem jdy(u:List Nat)(a:Nat):cd L (u++[a])=cd L u*L+a+1:=by simp[cd,U4]
theorem Ov.nil:Ov L []:=λ_ h=>nomatch h
theorem Ov.app{u v:List Nat}(h:Ov L u)(h':Ov L v):Ov L (u++v):=λa ha=>(A0.mp ha).elim (h a) (h' a)
theorem Ov.left{u v:List Nat}(h:Ov L (u++v)):Ov L u:=λa ha=>h a (Im _ ha)
theorem Ov.right{u v:List Nat}(h:Ov L (u++v)):Ov L v:=λa ha=>h a (A2 _ ha)
theorem Ov.one{a:Nat}(h:a<L):Ov L [a]:=λb hb=>by simp at hb;subst hb;exact h
theorem jla(hL:1<=L){u v:List Nat}(h:cd L u<cd L v):∀s,cd L (u++s)<cd L (v++s):=by
 intro s
 induction s generalizing u v with
 |nil=>simpa using h
 |cons a s ih =>
  have e1:u++a::s=(u++[a])++s:=by simp
  have e2:v++a::s=(v++[a])++s:=by simp
  rw[e1,e2]
  apply ih
  rw[jdy,jdy]
  have:=We L (Nat.succ_le_of_lt h)
  rw[Ya]at this
  omega
theorem jfo{u v:List Nat}{a b:Nat}(ha:a<L)(h:cd L u<cd L v):cd L (u++[a])<cd L (v++[b]):=by
 rw[jdy,jdy]
 have:=We L (Nat.succ_le_of_lt h)
 rw[Ya]at this
 omega
theorem jn8(hL:1<=L)(u:List Nat):∀s,cd L u<=cd L (u++s):=by
 intro s
 induction s generalizing u with
 |nil=>simp
 |cons a s ih =>
  have e1:u++a::s=(u++[a])++s:=by simp
  rw[e1]
  refine Io ?_ (ih (u++[a]))
  rw[jdy]
  have:=Nat.mul_le_mul_left (cd L u) hL
  omega
theorem jlb{u:List Nat}:∀{v:List Nat},Ov L u->Ov L v->cd L u=cd L v->u=v:=by
 refine jhk (P:=λu=>∀{v:List Nat},Ov L u->Ov L v->cd L u=cd L v->u=v) ?_ (λu a ih=>?_) u
 ·intro v _ hv h
  rcases Uf v with rfl|⟨w,b,rfl⟩
  ·rfl
  ·rw[Ug,jdy,jg5]at h;omega
 ·intro v hu hv h
  rcases Uf v with rfl|⟨w,b,rfl⟩
  ·rw[jdy,jg5]at h;omega
  ·rw[Ug]at h hv⊢
   have ha:a<L:=hu a (by simp)
   have hb:b<L:=hv b (by simp)
   rw[jdy,jdy]at h
   have e1:(cd L u*L+a) / L=(cd L w*L+b) / L:=by congr 1;omega
   rw[U7,Nat.mul_add_div (by omega),U7 (cd L w),Nat.mul_add_div (by omega),Nat.div_eq_of_lt ha,Nat.div_eq_of_lt hb]at e1
   have e2:cd L u=cd L w:=by omega
   have e3:a=b:=by rw[e2]at h;omega
   rw[ih hu.left hv.left e2,e3]
variable(δ:Nat->Nat->Nat)(Y:Nat->Bool)
def run(p:Nat)(w:List Nat):Nat:=w.foldl δ p
theorem jes(p:Nat)(u v:List Nat):run δ p (u++v)=run δ (run δ p u) v:=by simp[run,U4]
inductive Cl (S:Nat->Nat->Prop):Nat->Nat->Prop
 |rel {p q:Nat}:S p q->Cl S p q
 |refl (p:Nat):Cl S p p
 |symm {p q:Nat}:Cl S p q->Cl S q p
 |trans {p q r:Nat}:Cl S p q->Cl S q r->Cl S p r
theorem Cl.mono{S S':Nat->Nat->Prop}(h:∀p q,S p q->S' p q){p q:Nat}(c:Cl S p q):Cl S' p q:=by
 induction c with
 |rel x=>exact .rel (h _ _ x)
 |refl p=>exact .refl p
 |symm _ ih=>exact .symm ih
 |trans _ _ a b=>exact .trans a b
theorem Cl.agree{S:Nat->Nat->Prop}{s:List Nat}(h:∀p q,S p q->Y (run δ p s)=Y (run δ q s)){p q:Nat}(c:Cl S p q):Y (run δ p s)=Y (run δ q s):=by
 induction c with
 |rel x=>exact h _ _ x
 |refl p=>rfl
 |symm _ ih=>exact ih.symm
 |trans _ _ a b=>exact a.trans b
variable(one other:Nat)
def jgy(L:Nat)(Q:List (List Nat))(v:List Nat)(p q:Nat):Prop:=∃t∈Q,cd L t<cd L v/\p=run δ one t/\q=run δ other t
structure Bfs(L:Nat)(Q:List (List Nat))(k:Nat):Prop where
 q0:[]∈Q
 ov:∀u∈Q,Ov L u
 inc:∀(i j:Nat)(u v:List Nat),i<j->Q[i]?=some u->Q[j]?=some v->cd L u<cd L v
 eqv:∀u∈Q,Y (run δ one u)=Y (run δ other u)
 step:∀(i:Nat)(u:List Nat),i<k->Q[i]?=some u->(∀a,a<L->u++[a]∈Q\/Cl (jgy δ one other L Q (u++[a])) (run δ one (u++[a])) (run δ other (u++[a])))\/Cl (jgy δ one other L Q u) (run δ one u) (run δ other u)
variable{δ Y one other}
theorem Bfs.smaller(hL:1<=L){Q:List (List Nat)}{k:Nat}(B:Bfs δ Y one other L Q k){v s:List Nat}(hs:Ov L s)(c:Cl (jgy δ one other L Q v) (run δ one v) (run δ other v))
  (ih:∀w',Ov L w'->cd L w'<cd L (v++s)->Y (run δ one w')=Y (run δ other w')):Y (run δ one (v++s))=Y (run δ other (v++s)):=by
 rw[jes,jes]
 refine Cl.agree δ Y (λp q ⟨t,ht,hlt,e1,e2⟩=>?_) c
 subst e1 e2
 rw[<-jes,<-jes]
 exact ih _ ((B.ov t ht).app hs) (jla hL hlt s)
theorem Bfs.reach(hL:1<=L){Q:List (List Nat)}{k:Nat}(B:Bfs δ Y one other L Q k){w:List Nat}(hw:Ov L w)(ih:∀w',Ov L w'->cd L w'<cd L w->Y (run δ one w')=Y (run δ other w'))
  (hd:Y (run δ one w)≠Y (run δ other w)):∀u s,w=u++s->(∀(i:Nat)(v:List Nat),(∃a r,u=v++a::r)->Q[i]?=some v->i<k)->u∈Q:=by
 refine jhk ?_ (λu a ihu=>?_)
 ·intro _ _ _;exact B.q0
 ·intro s e hk
  have e':w=u++(a::s):=by simpa using e
  have hu:=ihu (a::s) e' λi v ⟨b,r,hb⟩=>hk i v ⟨b,r++[a],by simp[hb]⟩
  obtain⟨i,hi⟩:=Oa hu
  have ov1:Ov L (a::s):=by rw[e']at hw;exact hw.right
  have ha:a<L:=ov1 a (by simp)
  rcases B.step i u (hk i u ⟨a,[],rfl⟩ hi) hi with h|h
  ·rcases h a ha with h|h
   ·exact h
   ·exfalso
    rw[e]at hd ih
    exact hd (B.smaller hL (v:=u++[a]) (s:=s) (λb hb=>ov1 b (by simp[hb])) h ih)
  ·exfalso
   rw[e']at hd ih
   exact hd (B.smaller hL (v:=u) (s:=a::s) ov1 h ih)
theorem Bfs.none(hL:1<=L){Q:List (List Nat)}(B:Bfs δ Y one other L Q Q.length):∀w,Ov L w->Y (run δ one w)=Y (run δ other w):=by
 have:∀n w,cd L w=n->Ov L w->Y (run δ one w)=Y (run δ other w):=by
  intro n
  induction n using Nat.strongRecOn with
  |ind n ih =>
   intro w hn hw
   refine Wn λhd=>hd ?_
   refine B.eqv w (B.reach hL hw (λw' h1 h2=>ih _ (by rw[<-hn];exact h2) w' rfl h1) hd w [] (by simp) λi v _ hv=>?_)
   exact(Ab.mp hv).1
 exact λw hw=>this _ w rfl hw
theorem Bfs.first(hL:1<=L){Q:List (List Nat)}{k b:Nat}{u:List Nat}(B:Bfs δ Y one other L Q k)(hu:Q[k]?=some u)(hb:b<L)(hl:∀a,a<b->Y (run δ one (u++[a]))=Y (run δ other (u++[a]))) :
  ∀w,Ov L w->cd L w<cd L (u++[b])->Y (run δ one w)=Y (run δ other w):=by
 have:∀n w,cd L w=n->Ov L w->cd L w<cd L (u++[b])->Y (run δ one w)=Y (run δ other w):=by
  intro n
  induction n using Nat.strongRecOn with
  |ind n ih =>
   intro w hn hw hlt
   refine Wn λhd=>hd ?_
   have ih':∀w',Ov L w'->cd L w'<cd L w->Y (run δ one w')=Y (run δ other w'):=λw' h1 h2=>ih _ (by rw[<-hn];exact h2) w' rfl h1 (Yb h2 hlt)
   rcases Uf w with rfl|⟨v,a,rfl⟩
   ·exact B.eqv [] B.q0
   ·rw[Ug]at *
    have ha:a<L:=hw a (by simp)
    have uo:Ov L u:=B.ov u (Ay hu)
    rcases Nat.lt_trichotomy (cd L v) (cd L u)with h|h|h
    ·refine B.eqv _ (B.reach hL hw ih' hd _ [] (by simp) λi t ⟨c,r,e⟩ ht=>?_)
     refine Wn λhik=>?_
     have hik':k<=i:=by omega
     have h1:cd L u<=cd L t:=by
      rcases Nat.lt_or_ge k i with hki|hki
      ·exact U5 (B.inc k i u t hki hu ht)
      ·have:i=k:=by omega
       subst this;rw[hu]at ht;cases ht;exact Al _
     have h2:cd L t<=cd L v:=by
      have e2:∃r',v=t++r':=by
       rcases Uf r with rfl|⟨r2,d,rfl⟩
       ·exact⟨[],by have:=List.append_inj_left' (s₁:=v) (s₂:=t) (t₁:=[a]) (t₂:=[c]) e rfl;simpa using this⟩
       ·refine⟨c::r2,?_⟩
        rw[Ug]at e
        have e3:v++[a]=(t++c::r2)++[d]:=by simpa using e
        exact List.append_inj_left' e3 rfl
      obtain⟨r',e2⟩:=e2
      rw[e2]
      exact jn8 hL t r'
     omega
    ·have e:=jlb hw.left uo h
     subst e
     rw[jdy,jdy]at hlt
     exact hl a (by omega)
    ·have:=jfo (b:=a) hb h
     omega
 exact λw hw hlt=>this _ w rfl hw hlt
def Res(δ:Nat->Nat->Nat)(Y:Nat->Bool)(L one other:Nat):Option (List Nat)->Prop
 |Option.none=>∀w,Ov L w->Y (run δ one w)=Y (run δ other w)
 |some r=>Ov L r/\Y (run δ one r)≠Y (run δ other r)/\∀w,Ov L w->cd L w<cd L r->Y (run δ one w)=Y (run δ other w)
end
end My
namespace My
structure UF(n:Nat)(h:List Nat)(d:Nat->Nat):Prop where
 len:h.length=n
 lt:∀x,x<n->h.getD x 0<n
 dec:∀x,x<n->h.getD x 0≠x->d (h.getD x 0)<d x
def cnt(p:Nat->Bool):Nat->Nat
 |0=>0
 |n+1=>cnt p n+(if p n then 1 else 0)
theorem jfx{p q:Nat->Bool}:∀n,(∀x,x<n->p x=q x)->cnt p n=cnt q n
 |0,_=>rfl
 |n+1,h=>by rw[cnt,cnt,jfx n λx hx=>h x (by omega),h n (by omega)]
theorem ji0{p q:Nat->Bool}{l:Nat}:∀n,l<n->(∀x,x<n->x≠l->p x=q x)->p l=true->q l=false->cnt q n+1=cnt p n
 |0,h,_,_,_=>by omega
 |n+1,hl,h,hp,hq=>by
  rw[cnt,cnt]
  by_cases e:l=n
  ·subst e
   rw[hp,hq,jfx (p:=q) (q:=p) l λx hx=>(h x (by omega) (by omega)).symm]
   simp
  ·have:=ji0 n (by omega) (λx hx hne=>h x (by omega) hne) hp hq
   rw[h n (by omega) (by omega)]
   omega
def jd8(n:Nat)(h:List Nat):Nat:=cnt (λx=>h.getD x 0 == x) n
theorem jed(h:List Nat)(i j v:Nat)(hi:i<h.length):(h.set i v).getD j 0=if j=i then v else h.getD j 0:=by
 rw[Ag,Ag,Wv]
 by_cases e:i=j
 ·subst e;simp[hi]
 ·have:¬j=i:=λz=>e z.symm
  simp[e,this]
theorem UF.halve{n:Nat}{h:List Nat}{d:Nat->Nat}(u:UF n h d){x:Nat}(hx:x<n)(hr:h.getD x 0≠x):UF n (h.set x (h.getD (h.getD x 0) 0)) d/\jd8 n (h.set x (h.getD (h.getD x 0) 0))=jd8 n h/\d (h.getD (h.getD x 0) 0)<d x:=by
 have hxl:x<h.length:=by rw[u.len];exact hx
 have l1:=u.lt x hx
 have l2:=u.lt _ l1
 have d1:=u.dec x hx hr
 have d2:d (h.getD (h.getD x 0) 0)<d x:=by
  by_cases e:h.getD (h.getD x 0) 0=h.getD x 0
  ·rw[e];exact d1
  ·exact Yb (u.dec _ l1 e) d1
 have ne:h.getD (h.getD x 0) 0≠x:=λe=>by rw[e]at d2;exact Uz _ d2
 refine⟨⟨by rw[Wi];exact u.len,λy hy=>?_,λy hy hne=>?_⟩,?_,d2⟩
 ·rw[jed _ _ _ _ hxl]
  split
  ·exact l2
  ·exact u.lt y hy
 ·rw[jed _ _ _ _ hxl]at hne⊢
  split
  ·rename_i e;subst e;exact d2
  ·rename_i e;rw[Ah e]at hne;exact u.dec y hy hne
 ·refine jfx n λy hy=>?_
  rw[jed _ _ _ _ hxl]
  by_cases e:y=x
  ·subst e
   rw[Am rfl]
   have h1:(h.getD (h.getD y 0) 0 == y)=false:=by simpa using ne
   have h2:(h.getD y 0 == y)=false:=by simpa using hr
   rw[h1,h2]
  ·rw[Ah e]
def anc(h:List Nat):Nat->Nat->Nat
 |0,x=>x
 |k+1,x=>anc h k (h.getD x 0)
theorem jiv{h:List Nat}{r:Nat}(e:h.getD r 0=r):∀k,anc h k r=r
 |0=>rfl
 |k+1=>by rw[anc,e];exact jiv e k
open Classical in
theorem UF.join{n:Nat}{h:List Nat}{d:Nat->Nat}(u:UF n h d){l r:Nat}(hl:l<n)(hr:r<n)(rl:h.getD l 0=l)(rr:h.getD r 0=r)(ne:l≠r):(∃d',UF n (h.set l r) d')/\jd8 n (h.set l r)+1=jd8 n h:=by
 have hll:l<h.length:=by rw[u.len];exact hl
 refine⟨⟨λy=>d y+(if ∃k,anc h k y=l then d r+1 else 0),by rw[Wi];exact u.len,λy hy=>?_,λy hy hne=>?_⟩,?_⟩
 ·rw[jed _ _ _ _ hll]
  split
  ·exact hr
  ·exact u.lt y hy
 ·rw[jed _ _ _ _ hll]at hne⊢
  by_cases e:y=l
  ·subst e
   rw[Am rfl]
   have n1:¬∃k,anc h k r=y:=fun⟨k,hk⟩=>by rw[jiv rr]at hk;exact ne hk.symm
   have p1:∃k,anc h k y=y:=⟨0,rfl⟩
   show d r+(if ∃k,anc h k r=y then d r+1 else 0)<d y+(if ∃k,anc h k y=y then d r+1 else 0)
   rw[Ah n1,Am p1]
   omega
  ·rw[Ah e]at hne⊢
   have dd:=u.dec y hy hne
   have iff:(∃k,anc h k (h.getD y 0)=l)↔∃k,anc h k y=l:=by
    constructor
    ·rintro⟨k,hk⟩;exact⟨k+1,hk⟩
    ·rintro⟨k,hk⟩
     cases k with
     |zero=>exact absurd hk e
     |succ k=>exact⟨k,hk⟩
   show d (h.getD y 0)+(if ∃k,anc h k (h.getD y 0)=l then d r+1 else 0)<d y+(if ∃k,anc h k y=l then d r+1 else 0)
   by_cases q:∃k,anc h k y=l
   ·rw[Am q,Am (iff.mpr q)];omega
   ·rw[Ah q,Ah λz=>q (iff.mp z)];omega
 ·refine ji0 (l:=l) n hl (λy hy hne=>?_) (by simpa using rl) ?_
  ·show(h.getD y 0 == y)=((h.set l r).getD y 0 == y)
   rw[jed _ _ _ _ hll,Ah hne]
  ·show((h.set l r).getD l 0 == l)=false
   rw[jed _ _ _ _ hll,Am rfl]
   simpa using ne.symm
theorem jje(n:Nat)(h:List Nat):jd8 n h<=n:=by
 have:∀p m,cnt p m<=m:=by
  intro p m
  induction m with
  |zero=>exact Al _
  |succ m ih=>rw[cnt];split <;> omega
 exact this _ n
def Snd(S:Nat->Nat->Prop)(n:Nat)(h:List Nat):Prop:=∀x,x<n->Cl S x (h.getD x 0)
theorem Snd.halve{S:Nat->Nat->Prop}{n:Nat}{h:List Nat}{d:Nat->Nat}(u:UF n h d)(s:Snd S n h){x:Nat}(hx:x<n):Snd S n (h.set x (h.getD (h.getD x 0) 0)):=λy hy=>by
 rw[jed _ _ _ _ (by rw[u.len];exact hx)]
 split
 ·rename_i e;subst e;exact(s y hy).trans (s _ (u.lt y hy))
 ·exact s y hy
theorem Snd.join{S:Nat->Nat->Prop}{n:Nat}{h:List Nat}{d:Nat->Nat}(u:UF n h d)(s:Snd S n h){l r:Nat}(hl:l<n)(c:Cl S l r):Snd S n (h.set l r):=λy hy=>by
 rw[jed _ _ _ _ (by rw[u.len];exact hl)]
 split
 ·rename_i e;subst e;exact c
 ·exact s y hy
theorem Snd.mono{S S':Nat->Nat->Prop}(hm:∀p q,S p q->S' p q){n:Nat}{h:List Nat}(s:Snd S n h):Snd S' n h:=λx hx=>(s x hx).mono hm
theorem jmy(n:Nat):UF n (List.range n) (λ_=>0):=⟨Of,λx hx=>by simp[hx],λx hx hne=>absurd (by simp[hx]) hne⟩
theorem jl8(S:Nat->Nat->Prop)(n:Nat):Snd S n (List.range n):=λx hx=>by
 have:(List.range n).getD x 0=x:=by simp[hx]
 rw[this];exact .refl x
end My
namespace My
open L2
def pr2(δ δ':Nat->Nat->Nat)(w:List Nat):Nat×Nat:=(run δ 0 w,run δ' 0 w)
def Rs2(δ δ':Nat->Nat->Nat)(Y Y':Nat->Bool)(L:Nat):Option (List Nat)->Prop
 |Option.none=>∀w,Ov L w->Y (run δ 0 w)=Y' (run δ' 0 w)
 |some r=>Ov L r/\Y (run δ 0 r)≠Y' (run δ' 0 r)/\∀w,Ov L w->cd L w<cd L r->Y (run δ 0 w)=Y' (run δ' 0 w)
structure Wk(δ δ':Nat->Nat->Nat)(L:Nat)(Q:List (List Nat))(k j:Nat):Prop where
 q0:[]∈Q
 ov:∀u∈Q,Ov L u
 inc:∀(i j:Nat)(u v:List Nat),i<j->Q[i]?=some u->Q[j]?=some v->cd L u<cd L v
 nd:(Q.map (pr2 δ δ')).Nodup
 step:∀(i:Nat)(u:List Nat)(a:Nat),Q[i]?=some u->a<L->(i<k\/i=k/\a<j)->∃t∈Q,pr2 δ δ' t=pr2 δ δ' (u++[a])/\cd L t<=cd L (u++[a])
 par:∀v∈Q,v=[]\/∃(i:Nat)(t:List Nat)(b:Nat),Q[i]?=some t/\v=t++[b]/\b<L/\(i<k\/i=k/\b<j)
 hl:∀(i:Nat)(v:List Nat),Q[i]?=some v->v.length<=i
section
variable{δ δ':Nat->Nat->Nat}{Y Y':Nat->Bool}{L:Nat}{Q:List (List Nat)}{k j:Nat}{u:List Nat}
theorem jgs(w:List Nat)(a:Nat):pr2 δ δ' (w++[a])=(δ (run δ 0 w) a,δ' (run δ' 0 w) a):=by unfold pr2;rw[jes,jes];rfl
theorem jlx{u v:List Nat}(h:pr2 δ δ' u=pr2 δ δ' v)(a:Nat):pr2 δ δ' (u++[a])=pr2 δ δ' (v++[a]):=by
 rw[jgs,jgs];unfold pr2 at h;rw[(Wg h).1,(Wg h).2]
theorem Wk.start:Wk δ δ' L [[]] 0 0:=by
 refine⟨.head _,λu hu=>?_,λi j u v h h1 h2=>?_,by simp,λi u a _ _ h=>by omega,λv hv=>.inl (by simpa using hv),λi v h=>?_⟩
 ·rw[Ai.mp hu];exact Ov.nil
 ·have:=(Ab.mp h2).1
  simp at this;omega
 ·have:=Ay h
  rw[Ai.mp this];exact O8 _
theorem Wk.low(h:Wk δ δ' L Q k j)(hu:Q[k]?=some u)(hj:j<L){v:List Nat}(hv:v∈Q):cd L v<cd L (u++[j]):=by
 rcases h.par v hv with rfl|⟨i,t,b,ht,rfl,hb,r⟩
 ·rw[jg5,jdy];omega
 ·rcases r with r|⟨r,hbj⟩
  ·exact jfo hb (h.inc i k t u r ht hu)
  ·subst r;rw[hu]at ht;cases ht;rw[jdy,jdy];omega
theorem Wk.add(h:Wk δ δ' L Q k j)(hu:Q[k]?=some u)(hj:j<L)(hn:pr2 δ δ' (u++[j])∉Q.map (pr2 δ δ')):Wk δ δ' L (Q++[u++[j]]) k (j+1):=by
 have kl:=(Ab.mp hu).1
 have old:∀(i:Nat)(v:List Nat),(Q++[u++[j]])[i]?=some v->Q[i]?=some v\/(i=Q.length/\v=u++[j]):=λi v e=>by
  by_cases c:i<Q.length
  ·rw[A1 c]at e;exact .inl e
  ·have e1:=(Ab.mp e).1
   simp only[Ae,List.length_cons,List.length_nil]at e1
   have:i=Q.length:=by omega
   subst this
   rw[Ib (Al _)]at e
   simp at e
   exact .inr ⟨rfl,e.symm⟩
 refine⟨Im _ h.q0,λv hv=>?_,λi i' v v' hi e e'=>?_,?_,λi v a e ha c=>?_,λv hv=>?_,λi v e=>?_⟩
 ·rcases A0.mp hv with hv|hv
  ·exact h.ov v hv
  ·rw[Ai.mp hv];exact Ov.app (h.ov u (Ay hu)) (Ov.one hj)
 ·rcases old i v e with q|⟨q,rfl⟩
  ·rcases old i' v' e' with q'|⟨q',rfl⟩
   ·exact h.inc i i' v v' hi q q'
   ·exact h.low hu hj (Ay q)
  ·have:=(Ab.mp e').1
   simp at this;omega
 ·rw[I0,Wx]
  refine⟨h.nd,by simp,λx hx y hy=>?_⟩
  simp only[Ak,Au,Ai]at hy
  subst hy
  exact λz=>hn (z▸hx)
 ·rcases old i v e with q|⟨q,rfl⟩
  ·by_cases cc:i=k/\a=j
   ·obtain⟨rfl,rfl⟩:=cc
    rw[hu]at q;cases q
    exact⟨_,A2 _ (.head _),rfl,Al _⟩
   ·obtain⟨t,ht,r⟩:=h.step i v a q ha (by omega)
    exact⟨t,Im _ ht,r⟩
  ·omega
 ·rcases A0.mp hv with hv|hv
  ·exact(h.par v hv).imp_right fun⟨i,t,b,ht,e,hb,r⟩=>⟨i,t,b,by rw[A1 (Ab.mp ht).1];exact ht,e,hb,by omega⟩
  ·rw[Ai.mp hv]
   exact .inr ⟨k,u,j,by rw[A1 kl];exact hu,rfl,hj,by omega⟩
 ·rcases old i v e with q|⟨q,rfl⟩
  ·exact h.hl i v q
  ·have:=h.hl k u hu
   rw[Ae];simp;omega
theorem Wk.skip(h:Wk δ δ' L Q k j)(hu:Q[k]?=some u)(hj:j<L)(hn:pr2 δ δ' (u++[j])∈Q.map (pr2 δ δ')):Wk δ δ' L Q k (j+1):=by
 refine⟨h.q0,h.ov,h.inc,h.nd,λi v a e ha c=>?_,λv hv=>(h.par v hv).imp_right fun⟨i,t,b,ht,e,hb,r⟩=>⟨i,t,b,ht,e,hb,by omega⟩,h.hl⟩
 by_cases cc:i=k/\a=j
 ·obtain⟨rfl,rfl⟩:=cc
  rw[hu]at e;cases e
  obtain⟨t,ht,e⟩:=Ij.mp hn
  exact⟨t,ht,e,U5 (h.low hu hj ht)⟩
 ·exact h.step i v a e ha (by omega)
theorem Wk.next(h:Wk δ δ' L Q k L):Wk δ δ' L Q (k+1) 0 :=
 ⟨h.q0,h.ov,h.inc,h.nd,λi v a e ha c=>h.step i v a e ha (by omega),λv hv=>(h.par v hv).imp_right fun⟨i,t,b,ht,e,hb,r⟩=>⟨i,t,b,ht,e,hb,by omega⟩,h.hl⟩
theorem jox(w:List Nat)(a:Nat)(hL:1<=L):cd L w<cd L (w++[a]):=by
 rw[jdy];have:=Nat.le_mul_of_pos_right (cd L w) hL;omega
theorem Wk.reach(h:Wk δ δ' L Q k j)(hL:1<=L):∀w,Ov L w->(∃t∈Q,pr2 δ δ' t=pr2 δ δ' w/\cd L t<=cd L w)\/∃i u,k<=i/\Q[i]?=some u/\cd L u<cd L w:=by
 refine jhk (λ_=>.inl ⟨[],h.q0,rfl,Al _⟩) λw a ih ho=>?_
 have hw:=jox w a hL
 rcases ih (Ov.left ho)with⟨t,ht,e,c⟩|⟨i,u,hi,hu,c⟩
 ·obtain⟨i,hi⟩:=Oa ht
  by_cases ci:i<k
  ·obtain⟨t',ht',e',c'⟩:=h.step i t a hi (ho a (A2 _ (.head _))) (.inl ci)
   refine .inl ⟨t',ht',e'.trans (jlx e a),Io c' ?_⟩
   rw[jdy,jdy]
   have:=We L c
   omega
  ·exact .inr ⟨i,t,by omega,hi,by omega⟩
 ·exact .inr ⟨i,u,hi,hu,by omega⟩
theorem Wk.mono(h:Wk δ δ' L Q k j){i i':Nat}{u v:List Nat}(hi:i<=i')(e:Q[i]?=some u)(e':Q[i']?=some v):cd L u<=cd L v:=by
 by_cases c:i=i'
 ·subst c;rw[e]at e';cases e';exact Al _
 ·exact U5 (h.inc i i' u v (by omega) e e')
theorem Wk.part(h:Wk δ δ' L Q k 0)(hL:1<=L)(hu:Q[k]?=some u)(eq:∀(i:Nat) (v:List Nat),i<k->Q[i]?=some v->Y (run δ 0 v)=Y' (run δ' 0 v))(hd:Y (run δ 0 u)≠Y' (run δ' 0 u)):Rs2 δ δ' Y Y' L (some u):=by
 refine⟨h.ov u (Ay hu),hd,λw hw c=>?_⟩
 rcases h.reach hL w hw with⟨t,ht,e,c'⟩|⟨i,v,hi,hv,c'⟩
 ·obtain⟨i,hi⟩:=Oa ht
  have ik:i<k:=by
   refine Classical.byContradiction λn=>?_
   have:=h.mono (Nat.le_of_not_lt n) hu hi
   omega
  have:=eq i t ik hi
  unfold pr2 at e
  rw[(Wg e).1,(Wg e).2]at this
  exact this
 ·have:=h.mono hi hu hv
  omega
theorem Wk.all(h:Wk δ δ' L Q Q.length 0)(hL:1<=L)(w:List Nat)(hw:Ov L w):pr2 δ δ' w∈Q.map (pr2 δ δ'):=by
 rcases h.reach hL w hw with⟨t,ht,e,c'⟩|⟨i,v,hi,hv,c'⟩
 ·exact e▸Ij.mpr ⟨t,ht,rfl⟩
 ·have:=(Ab.mp hv).1
  omega
theorem Wk.none(h:Wk δ δ' L Q Q.length 0)(hL:1<=L)(eq:∀v∈Q,Y (run δ 0 v)=Y' (run δ' 0 v)):Rs2 δ δ' Y Y' L Option.none:=λw hw=>by
 obtain⟨t,ht,e⟩:=Ij.mp (h.all hL w hw)
 have:=eq t ht
 unfold pr2 at e
 rw[(Wg e).1,(Wg e).2]at this
 exact this
theorem Rs2.turn:∀{r:Option (List Nat)},Rs2 δ δ' Y Y' L r->Rs2 δ' δ Y' Y L r
 |Option.none,h=>λw hw=>(h w hw).symm
 |some _,⟨h1,h2,h3⟩=>⟨h1,λz=>h2 z.symm,λw hw c=>(h3 w hw c).symm⟩
theorem Rs2.uniq:∀{r r':Option (List Nat)},Rs2 δ δ' Y Y' L r->Rs2 δ δ' Y Y' L r'->r=r'
 |Option.none,Option.none,_,_=>rfl
 |Option.none,some u,h,h'=>absurd (h u h'.1) h'.2.1
 |some u,Option.none,h,h'=>absurd (h' u h.1) h.2.1
 |some u,some v,h,h'=>by
  by_cases c:cd L u=cd L v
  ·rw[jlb h.1 h'.1 c]
  ·rcases Nat.lt_or_ge (cd L u) (cd L v)with c'|c'
   ·exact absurd (h'.2.2 u h.1 c') h.2.1
   ·exact absurd (h.2.2 v h'.1 (by omega)) h'.2.1
def kP(p:Nat×Nat):List Int:=[(p.1:Int),(p.2:Int)]
def kT(k:List Int):List Int:=[k.getD 1 0,k.getD 0 0]
theorem jlo{p q:Nat×Nat}(h:kP p=kP q):p=q:=by
 unfold kP at h
 simp only[At,Ii]at h
 exact Prod.ext (by omega) (by omega)
theorem jm7(p:Nat×Nat):kT (kP p)=kP (p.2,p.1):=rfl
structure PrS(δ δ':Nat->Nat->Nat)(L:Nat)(ks:List (List Int)):Prop where
 so:SrI ks
 nd:ks.Nodup
 mem:∀x,x∈ks↔∃w,Ov L w/\x=kP (pr2 δ δ' w)
theorem PrS.uniq{ks ks':List (List Int)}(h:PrS δ δ' L ks)(h':PrS δ δ' L ks'):ks=ks' :=
 h.so.one h'.so ((List.perm_ext_iff_of_nodup h.nd h'.nd).mpr λx=>(h.mem x).trans (h'.mem x).symm)
theorem PrS.turn{ks ks':List (List Int)}(h:PrS δ δ' L ks)(p:ks'.Perm (ks.map kT))(s:SrI ks'):PrS δ' δ L ks':=by
 refine⟨s,p.nodup_iff.mpr ?_,λx=>?_⟩
 ·refine O5.mpr (h.nd.imp_of_mem fun{a b} ha hb ne e=>?_)
  obtain⟨w,_,rfl⟩:=(h.mem a).mp ha
  obtain⟨v,_,rfl⟩:=(h.mem b).mp hb
  rw[jm7,jm7]at e
  have:=Wg (jlo e)
  exact ne (by rw[show pr2 δ δ' w=pr2 δ δ' v from Prod.ext this.2 this.1])
 ·rw[p.mem_iff,Ij]
  constructor
  ·rintro⟨y,hy,rfl⟩
   obtain⟨w,hw,rfl⟩:=(h.mem y).mp hy
   exact⟨w,hw,rfl⟩
  ·rintro⟨w,hw,rfl⟩
   exact⟨_,(h.mem _).mpr ⟨w,hw,rfl⟩,rfl⟩
structure RC(δ δ':Nat->Nat->Nat)(Y Y':Nat->Bool)(L:Nat)(r:Option (List Nat))(ks:List (List Int)):Prop where
 rs:Rs2 δ δ' Y Y' L r
 pr:r=Option.none->PrS δ δ' L ks
theorem RC.uniq{r r':Option (List Nat)}{ks ks':List (List Int)}(h:RC δ δ' Y Y' L r ks)(h':RC δ δ' Y Y' L r' ks'):r=r'/\(r=Option.none->ks=ks'):=by
 have e:=h.rs.uniq h'.rs
 exact⟨e,λz=>(h.pr z).uniq (h'.pr (e▸z))⟩
end
end My
namespace My
open PySem L2
local macro_rules
 | `(tactic| simp!)=>`(tactic| simp only [tSeq,tIfS,jdl,tOp,tVar,tC,tAsg,jc4,gSub,tRet,jdi,jdf,jdg,tAnd,tOr,tNot,jda,jdj,tB,jdd,rI0,rI,jb2,jb4,jb9,jca,jcn,jco,jcm,jcg,jb7,jb6,jb8,jb5,jck,jb1,jb0,jcb,jby,jci,jcz,jcj,jch,jcp,jc1,jcr,jcq,jcc,jcy,jb3,jcf,jcd,jce,Option.isSome_some,tBML,tCB,jde,tNil,tLst,tTup,jdn,tSl,jdk,jcw,jcs,iAny,jdb,jc5,jc7,jcv,jdc,tAug,ipI,jc2,jc9,jcu,jcx,jdh,jc8,hdl,jc0,jcl,tBM,jc3,Option.bind_some,Option.bind_none,Option.getD_some,L2.start,Ak,Au,List.length_cons,List.length_nil,List.cons_append,List.nil_append,Aq,At,List.replicate,List.getElem?_cons_zero,List.getElem?_cons_succ,List.set_cons_zero,List.set_cons_succ,Nat.reduceSub,Nat.reduceAdd,Nat.reduceLeDiff,Ap,V.int.injEq,V.bl.injEq,V.str.injEq,V.ref.injEq,HO.lst.injEq,HO.tup.injEq,Aw,A3,Ax,Is,Ii,jb,jct,jdm,jdp,jdq,A4,Az,Ao,Af,Ih,Ik,reduceIte,reduceCtorEq,jc6,tLam,jbz])
 | `(tactic| simp! [$ls,*])=>`(tactic| simp only [tSeq,tIfS,jdl,tOp,tVar,tC,tAsg,jc4,gSub,tRet,jdi,jdf,jdg,tAnd,tOr,tNot,jda,jdj,tB,jdd,rI0,rI,jb2,jb4,jb9,jca,jcn,jco,jcm,jcg,jb7,jb6,jb8,jb5,jck,jb1,jb0,jcb,jby,jci,jcz,jcj,jch,jcp,jc1,jcr,jcq,jcc,jcy,jb3,jcf,jcd,jce,Option.isSome_some,tBML,tCB,jde,tNil,tLst,tTup,jdn,tSl,jdk,jcw,jcs,iAny,jdb,jc5,jc7,jcv,jdc,tAug,ipI,jc2,jc9,jcu,jcx,jdh,jc8,hdl,jc0,jcl,tBM,jc3,Option.bind_some,Option.bind_none,Option.getD_some,L2.start,Ak,Au,List.length_cons,List.length_nil,List.cons_append,List.nil_append,Aq,At,List.replicate,List.getElem?_cons_zero,List.getElem?_cons_succ,List.set_cons_zero,List.set_cons_succ,Nat.reduceSub,Nat.reduceAdd,Nat.reduceLeDiff,Ap,V.int.injEq,V.bl.injEq,V.str.injEq,V.ref.injEq,HO.lst.injEq,HO.tup.injEq,Aw,A3,Ax,Is,Ii,jb,jct,jdm,jdp,jdq,A4,Az,Ao,Af,Ih,Ik,reduceIte,reduceCtorEq,jc6,tLam,jbz,$ls,*])
def top(i:Nat):Stmt:=PySem.Challenge.pw_calmword_k09_whole_two_machines_held.main.body.getD i (.Pass ⟨0,0,0,0⟩)
def BoxO(o:HO):Prop:=∃c s,o=.lst [.int c,.int s]/\1<=s/\s<=2147483629
def je7:Sp:=λvs H Q _=>∃b w o,vs=[.ref b,.int w]/\H b=some o/\BoxO o/\0<w/\w<1073741824/\∀d o,0<=d->d<w->BoxO o->Q (.int d) (upd H b o)
def jnc(K:PySem.W.Frag):Sp:=λvs H Q _=>∃(a:Addr)(k:Int)(ns:List Int),vs=[.ref a,.int k]/\SqL K H a (ns.map V.int)/\0<=k/\k<=1000/\∀b o,H b=none->BoxO o->Q (.ref b) (upd H b o)
section
variable{P:Program}{w:World}{K:PySem.W.Frag}{mg:Str->Option Value}{base:Heap}
abbrev kn:Stmt:=top 23
theorem jaj:FnScope ["_law_box_here","_law_wide","_law_digit","_law_one"] ["_law_box_here","_law_wide"] (jh kn):=⟨rfl,rfl,rfl,by decide +kernel,rfl,by decide +kernel,by decide +kernel⟩
theorem ok__law_take{f:Addr}{fd:FuncData}(F:Fun K "_law_take" "_law_take" kn f fd):FnOk P w K mg base CX0 1 f fd ["_law_box_here","_law_wide"] je7:=by
 refine F.ok jaj (λvs H Q E h=>?_) (λcdv A outer s H vs Q E hr h=>?_)
 ·obtain⟨b,w,o,rfl,_⟩:=h
  rfl
 ·obtain⟨b,w,o,rfl,hb,⟨c,sd,rfl,s1,s2⟩,w0,w1,k⟩:=h
  refine⟨_,(QSs.h (jg (ki (jr jbv (ji ix_U (qpv 0) je (λ_ _=>rfl)) je (jz _)) (jg (jk (i:=2) jaj.nd rfl (by ac_rfl) (jo zu (ji ix_U (qpv 0) je (λ_ _=>rfl)) (qpv 1)))
  (jg (zq (jo jbs (ji ix_U (qpv 0) je (λ_ _=>rfl)) (qpv 1)) (jap (qpv 0) je jhm))
  (jj (jx (qpv 2))))) j8)
  (jg (jk (i:=3) jaj.nd rfl (by ac_rfl) (jo zu (jo za (ji ix_U (qpv 0) je (λ_ _=>rfl)) je) je))
  (jg (zq (jo kh (jo zu (jo kh (jo za (qpv 3) je) je) je) je) (jap (qpv 0) je jhm))
  (jj (jx (jo zu (jo jbs (jo kh (jo za (qpv 3) je) (ji ix_U (qpv 0) je (λ_ _=>rfl))) je) (qpv 1)))))))),?_⟩
  have m1:∀z m:Int,0<m->0<=z%m/\z%m<m:=λz m h=>⟨Int.emod_nonneg z (by omega),Yh z h⟩
  simp! [hb]
  refine ite2 (λhc=>?_) (λ_=>?_)
  ·refine⟨w0,⟨w0,w1⟩,0,rfl,?_⟩
   simp! [hb]
   exact k _ _ (m1 c w w0).1 (m1 c w w0).2 ⟨_,_,rfl,s1,s2⟩
  ·have q1:=m1 (sd*69623) 2147483647 (by decide)
   refine⟨.inl ⟨by omega,by omega⟩,by decide,.inl ⟨by omega,by omega⟩,by decide,1,rfl,?_⟩
   simp! [hb]
   have q2:=m1 (sd*69623%2147483647*48271+30103) 2147483629 (by decide)
   refine⟨.inl ⟨by omega,by omega⟩,⟨by decide,by decide⟩,w0,?_⟩
   exact k _ _ (m1 _ w w0).1 (m1 _ w w0).2 ⟨_,_,rfl,by omega,by omega⟩
structure TBox(mg:Str->Option Value):Prop where
 n_len:mg "len"=none
 n_int:mg "int"=none
abbrev zd:Stmt:=top 22
theorem zm:FnScope ["_law_script","_law_k","_law_cell","_law_seed"] ["_law_script","_law_k"] (jh zd):=⟨rfl,rfl,rfl,by decide +kernel,rfl,by decide +kernel,by decide +kernel⟩
theorem ok__law_box{f:Addr}{fd:FuncData}(F:Fun K "_law_box" "_law_box" zd f fd)(T:TBox mg):FnOk P w K mg base CX0 1 f fd ["_law_script","_law_k"] (jnc K):=by
 refine F.ok zm (λvs H Q E h=>?_) (λcdv A outer s H vs Q E hr h=>?_)
 ·obtain⟨a,k,ns,rfl,_⟩:=h
  rfl
 ·obtain⟨a,k,ns,rfl,hS,k0,k1,kk⟩:=h
  refine⟨_,(QSs.h (jg (jk (i:=2) zm.nd rfl (by ac_rfl) (jo kh (jo za je (qpv 1)) je))
  (jg (ki (jr ja4 (qpv 1) (jn zg (by rfl) T.n_len ke (ja (qpv 0) jc)) (jz _)) (jj (jk (i:=2) zm.nd rfl (by ac_rfl) (ji ja9 (qpv 0) (qpv 1) (λ_ _=>rfl)))) (jj (ki (jr jbv (jn zg (by rfl) T.n_len ke (ja (qpv 0) jc)) je (jz _)) (jj (jk (i:=2) zm.nd rfl (by ac_rfl) (jo kh (qpv 2) (jo za (jo zu (ji ja9 (qpv 0) (jo zu (qpv 1) (jn zg (by rfl) T.n_len ke (ja (qpv 0) jc))) (λ_ _=>rfl)) je) je)))) j8)))
  (jg (jk (i:=3) zm.nd rfl (by ac_rfl) (jo kh (jo zu (jo kh (jo za (jo zu (qpv 2) je) je) (jo za je (qpv 1))) je) je))
  (jj (jx (ya (ja (jo za (qpv 2) (ju jaw (by rfl) T.n_int jbj (ja (zz op_ge (qpv 2) (jo op_pow je je) (jz _)) jc))) (ja (qpv 3) jc))))))))),?_⟩
  have m1:∀z m:Int,0<m->0<=z%m/\z%m<m:=λz m h=>⟨Int.emod_nonneg z (by omega),Yh z h⟩
  have tail:∀cell:Int,(0:Int)<2147483629/\CMul (cell%2147483629) 48271/\CMul 40692 k/\(0:Int)<2147483629/\CPow 10 18/\CMul cell (if(10:Int)^(18:Int).toNat<=cell then 1 else 0)/\2<=sizeLine /\
    ∀p,H p=none->Q (.ref p) (upd H p (.lst [.int (cell*(if(10:Int)^(18:Int).toNat<=cell then 1 else 0)),.int ((cell%2147483629*48271+40692*k)%2147483629+1)])):=by
   intro cell
   have q1:=m1 cell 2147483629 (by decide)
   have q2:=m1 (cell%2147483629*48271+40692*k) 2147483629 (by decide)
   refine⟨by decide,.inl ⟨by omega,by omega⟩,.inl ⟨by decide,by decide⟩,by decide,⟨by decide,by decide,by decide⟩,.inr ?_,by decide,λp hp=>kk p _ hp ⟨_,_,rfl,by omega,by omega⟩⟩
   split <;> constructor <;> decide
  simp!
  refine⟨.inl ⟨by decide,by decide⟩,ns.map V.int,.inl hS,?_⟩
  rw[Aa]
  refine ite2 (λh=>?_) (λh=>?_)
  ·obtain⟨z,hz⟩:∃z,ns[k.toNat]?=some z:=⟨ns[k.toNat]'(by omega),by simp⟩
   refine⟨a,_,k,.int z,rfl,rfl,hS,jg2 k0 (by rw[A9,hz];rfl),?_⟩
   simp!
   exact tail z
  ·refine⟨ns.map V.int,.inl hS,?_⟩
   rw[Aa]
   refine ite2 (λh2=>?_) (λh2=>?_)
   ·refine⟨ns.map V.int,.inl hS,?_⟩
    rw[Aa]
    have q:=m1 k (ns.length:Int) (by omega)
    obtain⟨z,hz⟩:∃z,ns[(k%(ns.length:Int)).toNat]?=some z:=⟨ns[(k%(ns.length:Int)).toNat]'(by omega),by simp⟩
    refine⟨by omega,a,_,_,.int z,rfl,rfl,hS,jg2 q.1 (by rw[A9,hz];rfl),?_⟩
    simp!
    have q3:=m1 z 2147483629 (by decide)
    refine⟨by decide,.inl ⟨by omega,by omega⟩,?_⟩
    exact tail _
   ·exact tail _
end
structure Letters(z:Str)(m:Nat):Prop where
 lo:1<=z.length
 hi:z.length<=m
 az:∀c∈z.cps.toList,97<=c/\c<=122
 nd:z.cps.toList.Nodup
def chV(c:Nat):V:=.str ⟨#[c]⟩
def jf4:Sp:=λvs H Q _=>∃(b:Addr)(m:Nat)(o:HO),vs=[.ref b,.int (m:Int)]/\H b=some o/\BoxO o/\1<=m/\m<=4/\∀z o' H',Letters z m->BoxO o'->H' b=some o'->Kp [b] H H'->Q (.str z) H'
theorem jfr{α:Type}:∀(l:List α)(i:Nat)(x:α),l[i]?=some x->(x::l.eraseIdx i).Perm l
 |[],i,x,h=>by simp at h
 |a::l,0,x,h=>by simp at h;subst h;exact U8 _
 |a::l,i+1,x,h=>by
  rw[List.eraseIdx_cons_succ]
  exact(List.Perm.swap _ _ _).trans ((jfr l i x (by simpa using h)).cons a)
theorem jf0{α β:Type}(f:α->β):∀(l:List α)(i:Nat),(l.map f).eraseIdx i=(l.eraseIdx i).map f
 |[],_=>rfl
 |_::_,0=>rfl
 |a::l,i+1=>by rw[Ak,List.eraseIdx_cons_succ,List.eraseIdx_cons_succ,Ak,jf0 f l i]
theorem jng:sgn (Str.ofString "abcdefghijklmnopqrstuvwxyz")=((List.range 26).map (97+·)).map chV:=by decide +kernel
structure TLetters(mg:Str->Option Value)(ft:Addr):Prop where
 n_len:mg "len"=none
 n_list:mg "list"=none
 n_range:mg "range"=none
 m0z:mg "_law_take"=some (.ref ft)
section
variable{P:Program}{w:World}{K:PySem.W.Frag}{mg:Str->Option Value}{base:Heap}
abbrev yc:Stmt:=top 24
theorem y4:FnScope ["_law_box_here","_law_most","_law_pool","_law_found","_law_k"] ["_law_box_here","_law_most"] (jh yc):=⟨rfl,rfl,rfl,by decide +kernel,rfl,by decide +kernel,by decide +kernel⟩
theorem ok__law_letters{f ft:Addr}{fd fdt:FuncData}(F:Fun K "_law_letters" "_law_letters" yc f fd)(T:TLetters mg ft)(F0z:Fun K "_law_take" "_law_take" kn ft fdt)(b0z:Binds K fdt ["_law_box_here","_law_wide"] [])
  (G0z:FnOk P w K mg base CX0 1 ft fdt ["_law_box_here","_law_wide"] je7):FnOk P w K mg base CX0 2 f fd ["_law_box_here","_law_most"] jf4:=by
 refine F.ok y4 (λvs H Q E h=>?_) (λcdv A outer s H vs Q E hr h=>?_)
 ·obtain⟨b,m,o,rfl,_⟩:=h
  rfl
 ·obtain⟨b,m,o,rfl,hb,ho,m1,m4,k⟩:=h
  refine⟨_,(QSs.h (jg (jk (i:=2) y4.nd rfl (by ac_rfl) (ju (zr rfl) (by rfl) T.n_list zn (ja yk jc)))
  (jg (jk (i:=3) y4.nd rfl (by ac_rfl) yk)
  (jg (zb Od rfl (yq rfl T.n_range (ja (jo kh je (jm G0z (hr.mono (by decide)) rfl T.m0z F0z.kp b0z .nil jy (ja (qpv 0) (ja (qpv 1) jc)))) jc)) (jv (i:=4) y4.nd rfl (by ac_rfl)) (jj (jk (i:=3) y4.nd rfl (by ac_rfl) (jo kh (qpv 3) (yv PySem.F.slot_list_pop PySem.F.type_list_pop jbq (qpv 2) (ja (jm G0z (hr.mono (by decide)) rfl T.m0z F0z.kp b0z .nil jy (ja (qpv 0) (ja (jn j4 (by rfl) T.n_len ke (ja (qpv 2) jc)) jc))) jc) jd3)))))
  (jj (jx (qpv 3))))))),?_⟩
  simp!
  refine⟨by decide,λp hp=>?_⟩
  have npb:b≠p:=jf hb hp
  obtain⟨c0,s0,rfl,_,_⟩:=id ho
  refine⟨b,(m:Int),_,rfl,by rw[jd npb];exact hb,ho,by omega,by omega,λd o1 d0 d1 ho1=>?_⟩
  simp!
  obtain⟨n,rfl⟩:∃n:Nat,d=(n:Int):=⟨d.toNat,by omega⟩
  have en:(1+(n:Int)).toNat=n+1:=by omega
  refine⟨by omega,by omega,?_⟩
  rw[en]
  refine jd7 (λi σ H'=>∃l R o' v,σ=[some (.ref b),some (.int (m:Int)),some (.ref p),some (.str (toS l)),v]/\H' b=some o'/\BoxO o'/\H' p=some (.lst (R.map chV))/\Kp [b] H H'/\l.length=i/\R.length+i=26 /\
   (l++R).Nodup/\∀c∈l++R,97<=c/\c<=122) ?_ ?_ ?_
  ·refine⟨[],(List.range 26).map (97+·),o1,none,rfl,jb,ho1,?_,?_,rfl,by simp,?_,?_⟩
   ·rw[jd npb.symm,jb,jng]
   ·exact((Kp.refl [b] H).new hp).set (by rw[jd npb];exact hb) (.inl (by simp))
   ·decide
   ·decide
  ·rintro i σ H' hi ⟨l,R,o',v,rfl,hb',ho',hp',kp,hl,hR,nd,az⟩
   simp! [hp']
   obtain⟨c1,s1,rfl,_,_⟩:=id ho'
   refine⟨b,_,_,rfl,hb',ho',by rw[Aa];omega,by rw[Aa];omega,λd o2 d0 d1 ho2=>?_⟩
   rw[Aa]at d1
   have hp2:upd H' b o2 p=some (.lst (R.map chV)):=by rw[jd npb.symm];exact hp'
   simp! [hp2]
   obtain⟨c,hc⟩:∃c,R[d.toNat]?=some c:=⟨R[d.toNat]'(by omega),by simp⟩
   have hc':(R.map chV)[d.toNat]?=some (.str ⟨#[c]⟩):=by rw[A9,hc];rfl
   refine⟨d0,_,hc',?_⟩
   simp!
   have pm:=jfr R d.toNat c hc
   have e1:((l++[c])++R.eraseIdx d.toNat).Perm (l++R):=by
    rw[A8]
    exact pm.append_left l
   have hlen:(R.eraseIdx d.toNat).length+1=R.length:=by
    have:=pm.length_eq
    simpa using this
   refine⟨?_,l++[c],R.eraseIdx d.toNat,o2,_,⟨jkk l c,rfl⟩,by rw[jd npb,jb],ho2,jf0 chV R _,?_,by simp[hl],by omega,?_,?_⟩
   ·rw[jga]
    show l.length+1<=sizeLine
    have:sizeLine=16777216:=Iw
    omega
   ·exact(kp.set hb' (.inl (.head _))).set hp2 (.inr hp)
   ·exact e1.nodup_iff.mpr nd
   ·exact λx hx=>az x (e1.mem_iff.mp hx)
  ·rintro σ H' ⟨l,R,o',v,rfl,hb',ho',hp',kp,hl,hR,nd,az⟩
   simp! [hp']
   exact k (toS l) o' H' ⟨by rw[jga];omega,by rw[jga];omega,λc hc=>az c (Im _ (by simpa[toS]using hc)),by simpa[toS]using(Wx.mp nd).1⟩ ho' hb' kp
end
theorem jm0{H:Hp}{a b:Addr}{x y:HO}(h:a≠b):upd (upd H a x) b y=upd (upd H b y) a x:=by
 funext c
 by_cases h1:c=a
 ·subst h1;rw[jd h,jb,jb]
 ·by_cases h2:c=b
  ·subst h2;rw[jb,jd h1,jb]
  ·rw[jd h2,jd h1,jd h1,jd h2]
theorem jmi{lo:Int}{n:Nat}{D b:Addr}{te:TE}{E:Ends}{r:L2.St}{H:Hp}{o0:HO}(P:V->Prop)(hb:H b=some o0)(ho0:BoxO o0)(hD:H D=none)(hz:n<=sizeLine)
  (he:∀x H' o Q,H' b=some o->BoxO o->(∀v o',P v->BoxO o'->Q v (upd H' b o'))->te (some x::r) H' Q)
  (hn:∀v xs o',xs.length=n->(∀x∈xs,P x)->BoxO o'->E.nx (v::r) (upd (upd H b o') D (.lst xs))):jep (Itr lo n) (jc4 0) (je4 D te) E (none::r) (upd H D (.lst [])):=by
 have nbD:b≠D:=jf hb hD
 refine jd7 (λi σ H'=>∃(v:Option V)(xs:List V)(o':HO),σ=v::r/\xs.length=i/\(∀x∈xs,P x)/\BoxO o'/\H'=upd (upd H b o') D (.lst xs)) ?_ ?_ ?_
 ·refine⟨none,[],o0,rfl,rfl,(λx h=>nomatch h),ho0,?_⟩
  have:upd H b o0=H:=by
   funext c
   by_cases h:c=b
   ·subst h;rw[jb,hb]
   ·rw[jd h]
  rw[this]
 ·rintro i σ H' hi ⟨v,xs,o',rfl,hl,hP,ho',rfl⟩
  refine he _ _ o' _ (by rw[jd nbD,jb]) ho' λy o2 hy ho2=>?_
  have e:upd (upd (upd H b o') D (.lst xs)) b o2=upd (upd H b o2) D (.lst xs):=by rw[jm0 nbD.symm,jct]
  refine⟨xs,by rw[e,jb];rfl,by omega,_,xs++[y],o2,rfl,by simp[hl],λx hx=>?_,ho2,by rw[e,jct]⟩
  rcases A0.mp hx with h|h
  ·exact hP x h
  ·simp at h;subst h;exact hy
 ·rintro σ H' ⟨v,xs,o',rfl,hl,hP,ho',rfl⟩
  exact hn v xs o' hl hP ho'
theorem _root_.L2.Kp.seq{S:List Addr}{K:PySem.W.Frag}{H H':Hp}{a:Addr}{xs:List V}(e:Kp S H H')(n:a∉S)(h:SqL K H a xs):SqL K H' a xs:=by
 rcases h with(h|⟨o,h⟩)|h
 ·exact .inl (.inl (e.old _ _ h n))
 ·exact .inl (.inr ⟨o,e.old _ _ h n⟩)
 ·exact .inr h
local macro_rules
 | `(tactic| simp!)=>`(tactic| simp only [tSeq,tIfS,jdl,tOp,tVar,tC,tAsg,jc4,gSub,tRet,jdi,jdf,jdg,tAnd,tOr,tNot,jda,jdj,tB,jdd,rI0,rI,jb2,jb4,jb9,jca,jcn,jco,jcm,jcg,jb7,jb6,jb8,jb5,jck,jb1,jb0,jcb,jby,jci,jcz,jcj,jch,jcp,jc1,jcr,jcq,jcc,jcy,jb3,jcf,jcd,jce,Option.isSome_some,tBML,tCB,jde,tNil,tLst,tTup,jdn,tSl,jdk,jcw,jcs,iAny,jdb,jc5,jc7,jcv,jdc,tAug,ipI,jc2,jc9,jcu,jcx,jdh,jc8,hdl,jc0,jcl,tBM,jc3,Option.bind_some,Option.bind_none,Option.getD_some,L2.start,Ak,Au,List.length_cons,List.length_nil,List.cons_append,List.nil_append,Aq,At,List.replicate,List.getElem?_cons_zero,List.getElem?_cons_succ,List.set_cons_zero,List.set_cons_succ,Nat.reduceSub,Nat.reduceAdd,Nat.reduceLeDiff,Ap,V.int.injEq,V.bl.injEq,V.str.injEq,V.ref.injEq,HO.lst.injEq,HO.tup.injEq,Aw,A3,Ax,Is,Ii,jb,jct,jdm,jdp,jdq,A4,Az,Ao,Af,Ih,Ik,reduceIte,reduceCtorEq,jc6,tLam,jbz])
 | `(tactic| simp! [$ls,*])=>`(tactic| simp only [tSeq,tIfS,jdl,tOp,tVar,tC,tAsg,jc4,gSub,tRet,jdi,jdf,jdg,tAnd,tOr,tNot,jda,jdj,tB,jdd,rI0,rI,jb2,jb4,jb9,jca,jcn,jco,jcm,jcg,jb7,jb6,jb8,jb5,jck,jb1,jb0,jcb,jby,jci,jcz,jcj,jch,jcp,jc1,jcr,jcq,jcc,jcy,jb3,jcf,jcd,jce,Option.isSome_some,tBML,tCB,jde,tNil,tLst,tTup,jdn,tSl,jdk,jcw,jcs,iAny,jdb,jc5,jc7,jcv,jdc,tAug,ipI,jc2,jc9,jcu,jcx,jdh,jc8,hdl,jc0,jcl,tBM,jc3,Option.bind_some,Option.bind_none,Option.getD_some,L2.start,Ak,Au,List.length_cons,List.length_nil,List.cons_append,List.nil_append,Aq,At,List.replicate,List.getElem?_cons_zero,List.getElem?_cons_succ,List.set_cons_zero,List.set_cons_succ,Nat.reduceSub,Nat.reduceAdd,Nat.reduceLeDiff,Ap,V.int.injEq,V.bl.injEq,V.str.injEq,V.ref.injEq,HO.lst.injEq,HO.tup.injEq,Aw,A3,Ax,Is,Ii,jb,jct,jdm,jdp,jdq,A4,Az,Ao,Af,Ih,Ik,reduceIte,reduceCtorEq,jc6,tLam,jbz,$ls,*])
theorem exQ{X:Cx}{ss:List Stmt}{t:TS}{R:TS->Prop}(q:QSs X ss t)(h:R t):∃t,PSs X ss t/\R t:=⟨t,q.h,h⟩
def nV(n:Nat):V:=.int (n:Int)
theorem jid:∀{l zs:List Nat},l.Nodup->(∀x∈l,x∈zs)->l.length<=zs.length
 |[],_,_,_=>O8 _
 |x::l,zs,nd,h=>by
  obtain⟨hx,nd'⟩:=Up.mp nd
  have hm:=h x (.head _)
  have:=jid (l:=l) (zs:=zs.erase x) nd' λy hy=>(List.mem_erase_of_ne (λe:y=x=>hx (e▸hy))).mpr (h y (.tail _ hy))
  rw[List.length_erase_of_mem hm]at this
  have hp:0<zs.length:=List.length_pos_of_mem hm
  rw[List.length_cons]
  omega
theorem jfy{S:List Nat}{n:Nat}(nd:S.Nodup)(h:∀r∈S,r<n):S.length<=n:=by
 have q:=jid (zs:=List.range n) nd λx hx=>Ow.mpr (h x hx)
 simpa using q
def RowsM(H:Hp)(us:List V)(mv:List (List Nat)):Prop:=Paired (λv row=>∃a,v=.ref a/\H a=some (.tup (row.map nV))) us mv
theorem RowsM.kp{S:List Addr}{H H':Hp}{us:List V}{mv:List (List Nat)}(k:Kp S H H')(h:RowsM H us mv):RowsM H' us mv:=Paired.mapP h λ_ _ ⟨a,e,h⟩=>⟨a,e,k.tup _ _ h⟩
theorem RowsM.get{H:Hp}{us:List V}{mv:List (List Nat)}(h:RowsM H us mv){i:Nat}{row:List Nat}(hi:mv[i]?=some row):∃a,us[i]?=some (.ref a)/\H a=some (.tup (row.map nV)):=by
 induction h generalizing i with
 |nil=>simp at hi
 |cons h _ ih =>
  cases i with
  |zero=>obtain⟨a,e,g⟩:=h;simp at hi;subst hi;exact⟨a,by simp[e],g⟩
  |succ i=>obtain⟨a,e,g⟩:=ih (by simpa using hi);exact⟨a,by simpa using e,g⟩
def dM(mv:List (List Nat))(r a:Nat):Nat:=(mv.getD r []).getD a 0
structure MvOk(mv:List (List Nat))(m:Nat):Prop where
 ln:∀row∈mv,row.length=m
 lt:∀row∈mv,∀x∈row,x<mv.length
theorem MvOk.at_{mv:List (List Nat)}{m r a:Nat}(h:MvOk mv m)(hr:r<mv.length)(ha:a<m):(mv.getD r [])[a]?=some (dM mv r a)/\dM mv r a<mv.length:=by
 have hm:mv.getD r []∈mv:=by rw[Ag,Ic hr];exact List.getElem_mem _
 have hl:a<(mv.getD r []).length:=by rw[h.ln _ hm];exact ha
 have e:(mv.getD r [])[a]?=some (dM mv r a):=by unfold dM;rw[Ag (l:=mv.getD r []),Ic hl];rfl
 exact⟨e,h.lt _ hm _ (Ay e)⟩
structure MG(G:Nat->Nat)(j:Nat)(fr:List Nat):Prop where
 lt:∀r∈fr,r<j
 inc:fr.Pairwise (λa b=>a<b)
 nd:(fr.map G).Nodup
 all:∀r,r<j->G r∈fr.map G
 fst:∀f∈fr,∀r,r<f->G r≠G f
def cu1(g:Nat->Nat->Nat)(r:Nat)(rs:List Nat)(a:Nat):List Nat:=if g r a∈rs then rs else rs++[g r a]
def cuR(g:Nat->Nat->Nat)(r a:Nat)(rs:List Nat):List Nat:=(List.range a).foldl (cu1 g r) rs
inductive Bf (g:Nat->Nat->Nat) (m first:Nat):Nat->List Nat->Prop
 |z:Bf g m first 0 [first]
 |s {j:Nat}{rs:List Nat}{r:Nat}:Bf g m first j rs->rs[j]?=some r->Bf g m first (j+1) (cuR g r m rs)
theorem jez(g:Nat->Nat->Nat)(r a:Nat)(rs:List Nat):cuR g r (a+1) rs=cu1 g r (cuR g r a rs) a:=by
 unfold cuR
 rw[Wj,U4];rfl
theorem jhr(g:Nat->Nat->Nat)(r:Nat)(rs:List Nat)(a:Nat):∃t,cu1 g r rs a=rs++t:=by
 unfold cu1
 split
 ·exact⟨[],by simp⟩
 ·exact⟨_,rfl⟩
theorem jhs(g:Nat->Nat->Nat)(r:Nat)(rs:List Nat):∀a,∃t,cuR g r a rs=rs++t
 |0=>⟨[],by simp[cuR]⟩
 |a+1=>by
  obtain⟨t,e⟩:=jhs g r rs a
  obtain⟨t2,e2⟩:=jhr g r (cuR g r a rs) a
  exact⟨t++t2,by rw[jez,e2,e,A8]⟩
theorem jnj(g:Nat->Nat->Nat)(r:Nat)(rs:List Nat)(a:Nat):g r a∈cu1 g r rs a:=by
 unfold cu1
 split
 ·assumption
 ·simp
theorem jf7(g:Nat->Nat->Nat)(r:Nat)(rs:List Nat):∀a b,b<a->g r b∈cuR g r a rs
 |0,b,h=>by omega
 |a+1,b,h=>by
  rw[jez]
  by_cases c:b=a
  ·subst c;exact jnj g r _ b
  ·obtain⟨t,e⟩:=jhr g r (cuR g r a rs) a
   rw[e]
   exact Im _ (jf7 g r rs a b (by omega))
theorem ixa{x:Nat}{rs t:List Nat}(h:x∈rs):(rs++t).idxOf x=rs.idxOf x:=by rw[List.idxOf_append,Am h]
structure BI(g:Nat->Nat->Nat)(m n first j:Nat)(rs:List Nat):Prop where
 nd:rs.Nodup
 lt:∀r∈rs,r<n
 z:rs[0]?=some first
 cl:∀r∈rs.take j,∀a,a<m->g r a∈rs
 jl:j<=rs.length
 rc:∀r∈rs,∃w:List Nat,(∀a∈w,a<m)/\w.foldl g first=r
theorem jn9{g:Nat->Nat->Nat}{r a:Nat}{rs:List Nat}(h:rs.Nodup):(cu1 g r rs a).Nodup:=by
 unfold cu1
 split
 ·exact h
 ·rename_i c
  rw[Wx]
  exact⟨h,by simp,λx hx y hy e=>c ((e.trans (Ai.mp hy))▸hx)⟩
theorem jg6{g:Nat->Nat->Nat}{r:Nat}{rs:List Nat}(h:rs.Nodup):∀a,(cuR g r a rs).Nodup
 |0=>h
 |a+1=>by rw[jez];exact jn9 (jg6 h a)
theorem jff{g:Nat->Nat->Nat}{r:Nat}{rs:List Nat}:∀a x,x∈cuR g r a rs->x∈rs\/∃b,b<a/\x=g r b
 |0,x,h=>.inl h
 |a+1,x,h=>by
  rw[jez]at h
  have:x∈cuR g r a rs\/x=g r a:=by
   unfold cu1 at h
   split at h
   ·exact .inl h
   ·rcases A0.mp h with h|h
    ·exact .inl h
    ·exact .inr (Ai.mp h)
  rcases this with h|h
  ·rcases jff a x h with h|⟨b,h1,h2⟩
   ·exact .inl h
   ·exact .inr ⟨b,by omega,h2⟩
  ·exact .inr ⟨a,by omega,h⟩
theorem Bf.inv{g:Nat->Nat->Nat}{m n first:Nat}(f0:first<n)(gl:∀r a,r<n->a<m->g r a<n){j:Nat}{rs:List Nat}(h:Bf g m first j rs):BI g m n first j rs:=by
 induction h with
 |z=>exact⟨by simp,by simpa using f0,rfl,by simp,by simp,λr hr=>⟨[],by simp,by simp at hr;exact hr.symm⟩⟩
 |@s j rs r _ hr ih =>
  obtain⟨t,e⟩:=jhs g r rs m
  have rm:=Ay hr
  have jl:=(Ab.mp hr).1
  refine⟨jg6 ih.nd m,λx hx=>?_,?_,λx hx a ha=>?_,?_,λx hx=>?_⟩
  ·rcases jff m x hx with h|⟨b,h1,h2⟩
   ·exact ih.lt x h
   ·rw[h2];exact gl r b (ih.lt r rm) h1
  ·rw[e,A1 (by omega)];exact ih.z
  ·rw[e,Iz (by omega),Ww,hr]at hx
   rcases A0.mp hx with h|h
   ·rw[e];exact Im _ (ih.cl x h a ha)
   ·simp at h;subst h
    exact jf7 g x rs m a ha
  ·rw[e,Ae];omega
  ·rcases jff m x hx with h|⟨b,h1,h2⟩
   ·exact ih.rc x h
   ·obtain⟨w,hw,ew⟩:=ih.rc r rm
    refine⟨w++[b],λa ha=>?_,by rw[U4,ew,h2];rfl⟩
    rcases A0.mp ha with h|h
    ·exact hw a h
    ·cases Ai.mp h;exact h1
def cuM(g:Nat->Nat->Nat)(m:Nat)(rs:List Nat):List (List Nat):=rs.map λr=>(List.range m).map λa=>rs.idxOf (g r a)
structure TCU(mg:Str->Option Value):Prop where
 n_len:mg "len"=none
 n_tuple:mg "tuple"=none
 n_range:mg "range"=none
section
variable{P:Program}{w:World}{K:PySem.W.Frag}{mg:Str->Option Value}{base:Heap}
theorem us2{C:List Value->Prop}(h:∀v0 v1:Value,C [v0,v1])(us:List Value)(e:us.length=2):C us:=by
 cases us with
 |nil=>exact absurd e.symm (Oh _)
 |cons v0 us =>
  cases us with
  |nil=>exact absurd (Oj (e.symm)) (Oh _)
  |cons v1 us =>
   cases us with
   |nil=>exact h v0 v1
   |cons _ _=>exact absurd (Oj (Oj (e))) (Oh _)
end
structure MH(H:Hp)(p:Addr)(z:Str)(pm py:Addr)(us:List V)(mv:List (List Nat))(m:Nat)(ys:List Bool):Prop where
 hp:H p=some (.tup [.str z,.ref pm,.ref py])
 hm:H pm=some (.tup us)
 rw:RowsM H us mv
 ok:MvOk mv m
 hy:H py=some (.tup (ys.map V.bl))
 yl:ys.length=mv.length
 n1:1<=mv.length
 n9:mv.length<=1000
 m9:m<=1000
theorem MH.kp{S:List Addr}{H H':Hp}{p:Addr}{z:Str}{pm py:Addr}{us:List V}{mv:List (List Nat)}{m:Nat}{ys:List Bool}(k:Kp S H H')(h:MH H p z pm py us mv m ys):MH H' p z pm py us mv m ys :=
 ⟨k.tup _ _ h.hp,k.tup _ _ h.hm,h.rw.kp k,h.ok,k.tup _ _ h.hy,h.yl,h.n1,h.n9,h.m9⟩
abbrev zc:Stmt:=top 9
theorem y6:FnScope ["first","signs","step","most","at","numbers","rooms","moves","room","row","sign","target"] ["first","signs","step","most","at"] (jh zc):=⟨rfl,rfl,rfl,by decide +kernel,rfl,by decide +kernel,by decide +kernel⟩
local macro_rules
 | `(tactic| simp!)=>`(tactic| simp only [tSeq,tIfS,jdl,tOp,tVar,tC,tAsg,jc4,gSub,tRet,jdi,jdf,jdg,tAnd,tOr,tNot,jda,jdj,tB,jdd,rI0,rI,jb2,jb4,jb9,jca,jcn,jco,jcm,jcg,jb7,jb6,jb8,jb5,jck,jb1,jb0,jcb,jby,jci,jcz,jcj,jch,jcp,jc1,jcr,jcq,jcc,jcy,jb3,jcf,jcd,jce,Option.isSome_some,tBML,tCB,jde,tNil,tLst,tTup,jdn,tSl,jdk,jcw,jcs,iAny,jdb,jc5,jc7,jcv,jdc,tAug,ipI,jc2,jc9,jcu,jcx,jdh,jc8,hdl,jc0,jcl,tBM,jc3,Option.bind_some,Option.bind_none,Option.getD_some,L2.start,Ak,Au,List.length_cons,List.length_nil,List.cons_append,List.nil_append,Aq,At,List.replicate,List.getElem?_cons_zero,List.getElem?_cons_succ,List.set_cons_zero,List.set_cons_succ,Nat.reduceSub,Nat.reduceAdd,Nat.reduceLeDiff,Ap,V.int.injEq,V.bl.injEq,V.str.injEq,V.ref.injEq,HO.lst.injEq,HO.tup.injEq,Aw,A3,Ax,Is,Ii,jb,jct,jdm,jdp,jdq,A4,Az,Ao,Af,Ih,Ik,reduceIte,reduceCtorEq,jc6,tLam,jbz])
 | `(tactic| simp! [$ls,*])=>`(tactic| simp only [tSeq,tIfS,jdl,tOp,tVar,tC,tAsg,jc4,gSub,tRet,jdi,jdf,jdg,tAnd,tOr,tNot,jda,jdj,tB,jdd,rI0,rI,jb2,jb4,jb9,jca,jcn,jco,jcm,jcg,jb7,jb6,jb8,jb5,jck,jb1,jb0,jcb,jby,jci,jcz,jcj,jch,jcp,jc1,jcr,jcq,jcc,jcy,jb3,jcf,jcd,jce,Option.isSome_some,tBML,tCB,jde,tNil,tLst,tTup,jdn,tSl,jdk,jcw,jcs,iAny,jdb,jc5,jc7,jcv,jdc,tAug,ipI,jc2,jc9,jcu,jcx,jdh,jc8,hdl,jc0,jcl,tBM,jc3,Option.bind_some,Option.bind_none,Option.getD_some,L2.start,Ak,Au,List.length_cons,List.length_nil,List.cons_append,List.nil_append,Aq,At,List.replicate,List.getElem?_cons_zero,List.getElem?_cons_succ,List.set_cons_zero,List.set_cons_succ,Nat.reduceSub,Nat.reduceAdd,Nat.reduceLeDiff,Ap,V.int.injEq,V.bl.injEq,V.str.injEq,V.ref.injEq,HO.lst.injEq,HO.tup.injEq,Aw,A3,Ax,Is,Ii,jb,jct,jdm,jdp,jdq,A4,Az,Ao,Af,Ih,Ik,reduceIte,reduceCtorEq,jc6,tLam,jbz,$ls,*])
def iV(x:Nat):V:=.int (x:Int)
theorem jmz{H:Hp}{a:Addr}{o:HO}(h:H a=some o):upd H a o=H:=by
 funext b
 unfold upd
 split
 ·rename_i e;rw[e,h]
 ·rfl
theorem jg0{h:List Nat}{x:Nat}(hx:x<h.length):atI (h.map iV) ((x:Nat):Int)=some (.int ((h.getD x 0:Nat):Int)):=by
 refine jdv ?_
 rw[A9]
 simp[hx,iV]
theorem jhv{n x:Nat}(hx:x<n):ixN n (x:Int)=some x:=by
 unfold ixN
 rw[Am (by omega),Am (by omega)]
 simp
theorem jhg(h:List Nat)(x v:Nat):(h.map iV).set x (.int (v:Int))=(h.set x v).map iV:=by
 rw[List.map_set];rfl
def jl9:Sp:=λvs H Q _=>∃(a:Addr)(x n:Nat)(hs:List Nat)(d:Nat->Nat),vs=[.ref a,.int (x:Int)]/\H a=some (.lst (hs.map iV))/\UF n hs d/\x<n /\
 ∀(r:Nat)(h':List Nat),r<n->UF n h' d->jd8 n h'=jd8 n hs->h'.getD r 0=r->(∀S,Snd S n hs->Snd S n h'/\Cl S x r)->(∀y,y<n->hs.getD y 0=y->h'.getD y 0=y)->Q (.int (r:Int)) (upd H a (.lst (h'.map iV)))
def jma:Sp:=λvs H Q _=>∃(a:Addr)(x y n:Nat)(hs:List Nat)(d:Nat->Nat),vs=[.ref a,.int (x:Int),.int (y:Int)]/\H a=some (.lst (hs.map iV))/\UF n hs d/\x<n/\y<n /\
 ∀(b:Bool)(h':List Nat)(d':Nat->Nat),UF n h' d'->(b=true->jd8 n h'+1=jd8 n hs)->(b=false->jd8 n h'=jd8 n hs)->(b=false->∀S,Snd S n hs->Cl S x y)->(∀S,S x y->Snd S n hs->Snd S n h')->Q (.bl b) (upd H a (.lst (h'.map iV)))
structure TJoin(mg:Str->Option Value)(fh:Addr):Prop where
 m6z:mg "head_of"=some (.ref fh)
section
variable{P:Program}{w:World}{K:PySem.W.Frag}{mg:Str->Option Value}{base:Heap}
abbrev zi:Stmt:=top 13
theorem ja7:FnScope ["heads","room"] ["heads","room"] (jh zi):=⟨rfl,rfl,rfl,by decide +kernel,rfl,by decide +kernel,by decide +kernel⟩
theorem ok_head_of{f:Addr}{fd:FuncData}(F:Fun K "head_of" "head_of" zi f fd):FnOk P w K mg base CX0 1 f fd ["heads","room"] jl9:=by
 refine F.ok ja7 (λvs H Q E h=>?_) (λcdv A outer s H vs Q E hr h=>?_)
 ·obtain⟨a,x,n,hs,d,rfl,_⟩:=h
  rfl
 ·obtain⟨a,x,n,hs,d,rfl,ha,u,hx,k⟩:=h
  have hu:=hr.units
  refine⟨_,(QSs.h (jg (jal Od (jr (zw hu) (ji ix_U (qpv 0) (qpv 1) (λ_ _=>rfl)) (qpv 1) (jz _)) (jg (zq (ji ix_U (qpv 0) (ji ix_U (qpv 0) (qpv 1) (λ_ _=>rfl)) (λ_ _=>rfl)) (jap (qpv 0) (qpv 1) jhm))
  (jj (jk (i:=1) ja7.nd rfl (by ac_rfl) (ji ix_U (qpv 0) (qpv 1) (λ_ _=>rfl))))))
  (jj (jx (qpv 1))))),?_⟩
  simp!
  unfold jhp
  refine⟨λm σ H'=>∃(y:Nat)(h':List Nat),σ=[some (.ref a),some (.int (y:Int))]/\H'=upd H a (.lst (h'.map iV))/\m=d y/\y<n/\UF n h' d/\jd8 n h'=jd8 n hs/\(∀S,Snd S n hs->Snd S n h'/\Cl S x y)/\(∀y,y<n->hs.getD y 0=y->h'.getD y 0=y),
   ⟨d x,x,hs,rfl,(jmz ha).symm,rfl,hx,u,rfl,λS h=>⟨h,.refl x⟩,λ_ _ h=>h⟩,?_⟩
  rintro m σ H' ⟨y,h',rfl,rfl,rfl,hy,u',hrt,hS,hk⟩
  have hyl:y<h'.length:=by rw[u'.len];exact hy
  have hzl:h'.getD y 0<h'.length:=by rw[u'.len];exact u'.lt y hy
  simp! [jg0 hyl,Int.ofNat.injEq,Int.natCast_inj]
  by_cases e:h'.getD y 0=y
  ·simp only[e,decide_true,A4,Af,Ih]
   exact k y h' hy u' hrt e hS hk
  ·obtain⟨u2,r2,d2⟩:=u'.halve hy e
   have nt:(!decide (h'.getD y 0=y))=true:=by rw[Ox e];rfl
   rw[Am nt]
   refine⟨_,λσ' H' q=>q,?_⟩
   simp! [jg0 hyl,jg0 hzl,Aa,jhv hyl,jhg]
   have hyl2:y<(h'.set y (h'.getD (h'.getD y 0) 0)).length:=by rw[Wi];exact hyl
   have g2:(h'.set y (h'.getD (h'.getD y 0) 0)).getD y 0=h'.getD (h'.getD y 0) 0:=by rw[jed _ _ _ _ hyl,Am rfl]
   refine⟨_,jg0 hyl2,d (h'.getD (h'.getD y 0) 0),d2,h'.getD (h'.getD y 0) 0,by rw[g2],_,rfl,rfl,u'.lt _ (u'.lt y hy),u2,by rw[r2];exact hrt,λS q=>?_,λy0 hy0 q=>?_⟩
   ·obtain⟨q1,q2⟩:=hS S q
    exact⟨q1.halve u' hy,(q2.trans (q1 y hy)).trans (q1 _ (u'.lt y hy))⟩
   ·have q1:=hk y0 hy0 q
    rw[jed _ _ _ _ hyl]
    by_cases e0:y0=y
    ·subst e0;exact absurd q1 e
    ·rw[Ah e0];exact q1
abbrev yz:Stmt:=top 12
theorem jac:FnScope ["heads","one","other","left","right"] ["heads","one","other"] (jh yz):=⟨rfl,rfl,rfl,by decide +kernel,rfl,by decide +kernel,by decide +kernel⟩
theorem ok_join_rooms{f fh:Addr}{fd fdh:FuncData}(F:Fun K "join_rooms" "join_rooms" yz f fd)(T:TJoin mg fh)(F6z:Fun K "head_of" "head_of" zi fh fdh)(b6z:Binds K fdh ["heads","room"] [])
  (G6z:FnOk P w K mg base CX0 1 fh fdh ["heads","room"] jl9):FnOk P w K mg base CX0 2 f fd ["heads","one","other"] jma:=by
 refine F.ok jac (λvs H Q E h=>?_) (λcdv A outer s H vs Q E hr h=>?_)
 ·obtain⟨a,x,y,n,hs,d,rfl,_⟩:=h
  rfl
 ·obtain⟨a,x,y,n,hs,d,rfl,ha,u,hx,hy,k⟩:=h
  have hu:=hr.units
  refine⟨_,(QSs.h (jg (jk (i:=3) jac.nd rfl (by ac_rfl) (jm G6z (hr.mono (by decide)) rfl T.m6z F6z.kp b6z .nil jy (ja (qpv 0) (ja (qpv 1) jc))))
  (jg (jk (i:=4) jac.nd rfl (by ac_rfl) (jm G6z (hr.mono (by decide)) rfl T.m6z F6z.kp b6z .nil jy (ja (qpv 0) (ja (qpv 2) jc))))
  (jg (zq (qpv 4) (jap (qpv 0) (qpv 3) jhm))
  (jj (jx (zz (zw hu) (qpv 3) (qpv 4) (jz _)))))))),?_⟩
  simp!
  refine⟨a,x,n,hs,d,rfl,ha,u,hx,λl h1 hl u1 r1 l1 s1 k1=>?_⟩
  simp!
  refine⟨a,y,n,h1,d,rfl,jb,u1,hy,λr h2 hr' u2 r2 rr s2 k2=>?_⟩
  have hll:l<h2.length:=by rw[u2.len];exact hl
  have ll:=k2 l hl l1
  simp! [Aa,jhv hll,jhg,Int.natCast_inj]
  have base':∀S,Snd S n hs->Snd S n h2/\Cl S x l/\Cl S y r:=λS q=>⟨(s2 S (s1 S q).1).1,(s1 S q).2,(s2 S (s1 S q).1).2⟩
  by_cases e:l=r
  ·subst e
   have es:h2.set l l=h2:=by
    apply List.ext_getElem?
    intro i
    rw[Wv]
    by_cases q:l=i
    ·subst q
     have:h2[l]?=some (h2.getD l 0):=by simp[hll]
     simp[hll,this,ll]
     have q2:h2.getD l 0=l:=ll
     simpa[hll]using q2.symm
    ·simp[q]
   rw[es]
   refine k _ h2 d u2 (λh=>by simp at h) (λ_=>by rw[r2,r1]) (λ_ S q=>?_) (λS _ q=>(base' S q).1)
   obtain⟨_,c1,c2⟩:=base' S q
   exact c1.trans c2.symm
  ·obtain⟨⟨d',u3⟩,r3⟩:=u2.join hl hr' ll rr e
   have nt:(!decide (l=r))=true:=by rw[Ox e];rfl
   rw[nt]
   refine k true _ d' u3 (λ_=>by rw[r3,r2,r1]) (λh=>nomatch h) (λh=>nomatch h) (λS q1 q=>?_)
   obtain⟨q2,c1,c2⟩:=base' S q
   exact q2.join u2 hl ((c1.symm.trans (.rel q1)).trans c2)
end
local macro_rules
 | `(tactic| simp!)=>`(tactic| simp only [tSeq,tIfS,jdl,tOp,tVar,tC,tAsg,jc4,gSub,tRet,jdi,jdf,jdg,tAnd,tOr,tNot,jda,jdj,tB,jdd,rI0,rI,jb2,jb4,jb9,jca,jcn,jco,jcm,jcg,jb7,jb6,jb8,jb5,jck,jb1,jb0,jcb,jby,jci,jcz,jcj,jch,jcp,jc1,jcr,jcq,jcc,jcy,jb3,jcf,jcd,jce,Option.isSome_some,tBML,tCB,jde,tNil,tLst,tTup,jdn,tSl,jdk,jcw,jcs,iAny,jdb,jc5,jc7,jcv,jdc,tAug,ipI,jc2,jc9,jcu,jcx,jdh,jc8,hdl,jc0,jcl,tBM,jc3,Option.bind_some,Option.bind_none,Option.getD_some,L2.start,Ak,Au,List.length_cons,List.length_nil,List.cons_append,List.nil_append,Aq,At,List.replicate,List.getElem?_cons_zero,List.getElem?_cons_succ,List.set_cons_zero,List.set_cons_succ,Nat.reduceSub,Nat.reduceAdd,Nat.reduceLeDiff,Ap,V.int.injEq,V.bl.injEq,V.str.injEq,V.ref.injEq,HO.lst.injEq,HO.tup.injEq,Aw,A3,Ax,Is,Ii,jb,jct,jdm,jdp,jdq,A4,Az,Ao,Af,Ih,Ik,reduceIte,reduceCtorEq,jc6,tLam,jbz])
 | `(tactic| simp! [$ls,*])=>`(tactic| simp only [tSeq,tIfS,jdl,tOp,tVar,tC,tAsg,jc4,gSub,tRet,jdi,jdf,jdg,tAnd,tOr,tNot,jda,jdj,tB,jdd,rI0,rI,jb2,jb4,jb9,jca,jcn,jco,jcm,jcg,jb7,jb6,jb8,jb5,jck,jb1,jb0,jcb,jby,jci,jcz,jcj,jch,jcp,jc1,jcr,jcq,jcc,jcy,jb3,jcf,jcd,jce,Option.isSome_some,tBML,tCB,jde,tNil,tLst,tTup,jdn,tSl,jdk,jcw,jcs,iAny,jdb,jc5,jc7,jcv,jdc,tAug,ipI,jc2,jc9,jcu,jcx,jdh,jc8,hdl,jc0,jcl,tBM,jc3,Option.bind_some,Option.bind_none,Option.getD_some,L2.start,Ak,Au,List.length_cons,List.length_nil,List.cons_append,List.nil_append,Aq,At,List.replicate,List.getElem?_cons_zero,List.getElem?_cons_succ,List.set_cons_zero,List.set_cons_succ,Nat.reduceSub,Nat.reduceAdd,Nat.reduceLeDiff,Ap,V.int.injEq,V.bl.injEq,V.str.injEq,V.ref.injEq,HO.lst.injEq,HO.tup.injEq,Aw,A3,Ax,Is,Ii,jb,jct,jdm,jdp,jdq,A4,Az,Ao,Af,Ih,Ik,reduceIte,reduceCtorEq,jc6,tLam,jbz,$ls,*])
theorem jjd(y:V)(f:Bool):∀m:Nat,(List.replicate m [V.bl f]).flatten=(List.replicate m f).map V.bl
 |0=>rfl
 |m+1=>by rw[List.replicate_succ,List.flatten_cons,jjd y f m,List.replicate_succ];rfl
theorem jkl:∀l:List Int,jd5 (l.map PyData.int)=true
 |[]=>rfl
 |_::r=>by simp[jd5,jek,jkl r]
theorem jjm:∀l:List Bool,jd5 (l.map PyData.bool)=true
 |[]=>rfl
 |_::r=>by simp[jd5,jek,jjm r]
def rowD(r:List Int):PyData:=.tuple (r.map PyData.int)
theorem jd4:∀l:List (List Int),jd5 (l.map rowD)=true
 |[]=>rfl
 |_::r=>by simp[jd5,jek,rowD,jkl,jd4 r]
structure Mach where
 z:Str
 mv:List (List Int)
 ye:List Bool
def Mach.D(m:Mach):PyData:=.tuple [.str m.z,.tuple (m.mv.map rowD),.tuple (m.ye.map PyData.bool)]
theorem Mach.only(m:Mach):jek m.D=true:=by simp[Mach.D,jek,jd5,jd4,jjm]
structure Mach.Ok(m:Mach)(most:Nat):Prop where
 let4:Letters m.z 4
 n1:1<=m.mv.length
 nh:m.mv.length<=most
 yl:m.ye.length=m.mv.length
 row:∀r∈m.mv,r.length=m.z.length/\∀t∈r,0<=t/\t<(m.mv.length:Int)
def jf5:Sp:=λvs H Q _=>∃(b:Addr)(z:Str)(n:Nat)(o:HO),vs=[.ref b,.str z,.int (n:Int)]/\H b=some o/\BoxO o/\Letters z 4/\1<=n/\n<=1000 /\
 ∀p m o' H',m.z=z->Mach.Ok m n->BoxO o'->H' b=some o'->Kp [b] H H'->Rep H' (.ref p) m.D->Q (.ref p) H'
def JG(b p q D:Addr)(z:Str)(n N:Nat)(kd tn:Int)(i j:Nat)(v12:Option V)(H2:Hp):L2.St->Hp->Prop:=λσ H3=>∃(g:Int)(o3:HO),σ=[some (.ref b),some (.str z),some (.int (n:Int)),some (.int (N:Int)),some (.int kd),some (.int tn),some (.ref D),some (.ref p),some (.int (0+(i:Int))),some (.ref q),some (.int (0+(j:Int))),some (.int g),v12] /\
 0<=g/\g<(N:Int)/\H3 b=some o3/\BoxO o3/\Kp [b] H2 H3
def JY(b p:Addr)(z:Str)(n N:Nat)(kd tn:Int)(D:Addr)(rs:List V)(rows:List (List Int))(v8 v9 v10 v11:Option V)(H:Hp):L2.St->Hp->Prop:=λσ H3=>∃(Y:Addr)(ys:List Bool)(o3:HO),σ=[some (.ref b),some (.str z),some (.int (n:Int)),some (.int (N:Int)),some (.int kd),some (.int tn),some (.ref D),some (.ref p),v8,v9,v10,v11,some (.ref Y)] /\
 H3 b=some o3/\BoxO o3/\H3 p=some (.lst rs)/\Reps H3 rs (rows.map rowD)/\H3 Y=some (.lst (ys.map V.bl))/\ys.length=N/\Kp [b] H H3
structure TMachine(mg:Str->Option Value)(ft:Addr):Prop where
 n_len:mg "len"=none
 n_max:mg "max"=none
 n_range:mg "range"=none
 n_tuple:mg "tuple"=none
 m0z:mg "_law_take"=some (.ref ft)
section
variable{P:Program}{w:World}{K:PySem.W.Frag}{mg:Str->Option Value}{base:Heap}
abbrev kj:Stmt:=top 25
theorem jw:FnScope ["_law_box_here","_law_letters_here","_law_most","_law_many","_law_kind","_law_turned_here","_law_goals","_law_moves","_law_room","_law_row","_law_k","_law_goal","_law_yes"] ["_law_box_here","_law_letters_here","_law_most"] (jh kj):=⟨rfl,rfl,rfl,by decide +kernel,rfl,by decide +kernel,by decide +kernel⟩
theorem ok__law_machine{f ft:Addr}{fd fdt:FuncData}(F:Fun K "_law_machine" "_law_machine" kj f fd)(T:TMachine mg ft)(F0z:Fun K "_law_take" "_law_take" kn ft fdt)(b0z:Binds K fdt ["_law_box_here","_law_wide"] [])
  (G0z:FnOk P w K mg base CX0 1 ft fdt ["_law_box_here","_law_wide"] je7):FnOk P w K mg base CX0 2 f fd ["_law_box_here","_law_letters_here","_law_most"] jf5:=by
 refine F.ok jw (λvs H Q E h=>?_) (λcdv A outer s H vs Q E hr h=>?_)
 ·obtain⟨b,z,n,o,rfl,_⟩:=h
  rfl
 ·obtain⟨b,z,n,o,rfl,hb,ho,hz,n1,nh,k⟩:=h
  have hu:=hr.units
  have hsz:sizeLine=16777216:=Iw
  have zl:=hz.lo
  have zh:=hz.hi
  refine⟨_,(QSs.h (jg (jk (i:=3) jw.nd rfl (by ac_rfl) (jo kh je (jm G0z (hr.mono (by decide)) rfl T.m0z F0z.kp b0z .nil jy (ja (qpv 0) (ja (qpv 2) jc)))))
  (jg (jk (i:=4) jw.nd rfl (by ac_rfl) (jm G0z (hr.mono (by decide)) rfl T.m0z F0z.kp b0z .nil jy (ja (qpv 0) (ja je jc))))
  (jg (jk (i:=5) jw.nd rfl (by ac_rfl) (jm G0z (hr.mono (by decide)) rfl T.m0z F0z.kp b0z .nil jy (ja (qpv 0) (ja (jn j4 (by rfl) T.n_len ke (ja (qpv 1) jc)) jc))))
  (jg (jbn (i:=6) jw.nd rfl (by ac_rfl) rfl (jel (sc:=jh kj) (N:=["_law_box_here","_law_letters_here","_law_most","_law_many","_law_kind","_law_turned_here","_law_goals","_law_moves","_law_room","_law_row","_law_k","_law_goal","_law_yes"]) (Nc:=["_law_letter","_law_box_here","_law_many"]) (js:=[none,some 0,some 3]) (by decide +kernel)) (z5 (K:=K) (qpv 1) rfl) (λ_ _ _ _=>(jv (i:=0) (show List.Nodup [("_law_letter":Str),("_law_box_here":Str),("_law_many":Str)]from by decide +kernel) rfl (by ac_rfl))) (λ_ _ _ _=>(jm G0z (hr.mono (by decide)) rfl T.m0z F0z.kp b0z .nil jy (ja (qpv 1) (ja (qpv 2) jc)))))
  (jg (jk (i:=7) jw.nd rfl (by ac_rfl) (ya jc))
  (jg (zb Od rfl (yq rfl T.n_range (ja (qpv 3) jc)) (jv (i:=8) jw.nd rfl (by ac_rfl)) (jg (jk (i:=9) jw.nd rfl (by ac_rfl) (ya jc))
  (jg (zb Od rfl (yq rfl T.n_range (ja (jn j4 (by rfl) T.n_len ke (ja (qpv 1) jc)) jc)) (jv (i:=10) jw.nd rfl (by ac_rfl)) (jg (jk (i:=11) jw.nd rfl (by ac_rfl) (jm G0z (hr.mono (by decide)) rfl T.m0z F0z.kp b0z .nil jy (ja (qpv 0) (ja (qpv 3) jc))))
  (ym (ki (QW.pt (jbo (jr (yh hu) (qpv 4) je (jz _)) (jbd (jr (yh hu) (qpv 4) je (jz _))))) (jj (jk (i:=11) jw.nd rfl (by ac_rfl) (jn (call_maxU rfl) (by rfl) T.n_max bt_max (ja (qpv 8) (ja (qpv 11) jc))))) j8)
  (ym (ki (jr (yh hu) (qpv 4) je (jz _)) (jj (jk (i:=11) jw.nd rfl (by ac_rfl) (ji ix_U (ya (ja (qpv 8) (ja (ji ix_U (qpv 6) (qpv 10) (λ_ _=>rfl)) jc))) (jm G0z (hr.mono (by decide)) rfl T.m0z F0z.kp b0z .nil jy (ja (qpv 0) (ja je jc))) (λ_ _=>rfl)))) j8)
  (ym (ki (QW.pt (qpw_and (jr (yh hu) (qpv 4) je (jz _)) (qpw_and1 (jr (yh hu) (qpv 10) (qpv 5) (jz _))))) (jj (jk (i:=11) jw.nd rfl (by ac_rfl) (jo zu (jo kh (qpv 8) je) (qpv 3)))) j8)
  (jj (yi (yv Iu Iv yb (qpv 9) (ja (qpv 11) jc) jd3))))))))
  (jj (yi (yv Iu Iv yb (qpv 7) (ja (ju yg (by rfl) T.n_tuple y8 (ja (qpv 9) jc)) jc) jd3))))))
  (jg (jbn (i:=12) jw.nd rfl (by ac_rfl) rfl (jel (sc:=jh kj) (N:=["_law_box_here","_law_letters_here","_law_most","_law_many","_law_kind","_law_turned_here","_law_goals","_law_moves","_law_room","_law_row","_law_k","_law_goal","_law_yes"]) (Nc:=["_law_room","_law_box_here"]) (js:=[none,some 0]) (by decide +kernel)) (yq rfl T.n_range (ja (qpv 3) jc)) (λ_ _ _ _=>(jv (i:=0) (show List.Nodup [("_law_room":Str),("_law_box_here":Str)]from by decide +kernel) rfl (by ac_rfl))) (λ_ _ _ _=>(zz (yh hu) (jm G0z (hr.mono (by decide)) rfl T.m0z F0z.kp b0z .nil jy (ja (qpv 1) (ja je jc))) je (jz _))))
  (ym (ki (jr (yh hu) (jm G0z (hr.mono (by decide)) rfl T.m0z F0z.kp b0z .nil jy (ja (qpv 0) (ja je jc))) je (jz _)) (jj (jk (i:=12) jw.nd rfl (by ac_rfl) (jo za (ya (ja (ji ix_U (qpv 12) je (λ_ _=>rfl)) jc)) (qpv 3)))) j8)
  (jj (jx (j9 (ja (qpv 1) (ja (ju yg (by rfl) T.n_tuple y8 (ja (qpv 7) jc)) (ja (ju yg (by rfl) T.n_tuple y8 (ja (qpv 12) jc)) jc))))))))))))))),?_⟩
  simp!
  refine⟨b,(n:Int),o,rfl,hb,ho,by omega,by omega,λd o1 d0 d1 ho1=>?_⟩
  obtain⟨dn,rfl⟩:∃dn:Nat,d=(dn:Int):=⟨d.toNat,by omega⟩
  have eN:(1+(dn:Int))=((dn+1:Nat):Int):=by omega
  have ex:∀{H':Hp}{o':HO},BoxO o'->∃xs,o'=.lst xs:=λh=>let⟨_,_,e,_⟩:=h;⟨_,e⟩
  obtain⟨xs0,rfl⟩:=ex (H':=H) ho
  obtain⟨xs1,rfl⟩:=ex (H':=H) ho1
  have kp1:Kp [b] H (upd H b (.lst xs1)):=(Kp.refl [b] H).set hb (.inl (.head _))
  rw[jb2,eN]
  generalize hN:dn+1=N
  have N1:1<=N:=by omega
  have Nh:N<=n:=by omega
  simp!
  refine⟨b,5,_,rfl,jb,ho1,by omega,by omega,λkd o2 kd0 kd5 ho2=>?_⟩
  simp!
  refine⟨by omega,b,(z.length:Int),_,rfl,jb,ho2,by omega,by omega,λtn o3 tn0 tn1 ho3=>?_⟩
  simp!
  intro D hD
  obtain⟨xs3,rfl⟩:=ex (H':=H) ho3
  have kp3:Kp [b] H (upd H b (.lst xs3)):=(Kp.refl [b] H).set hb (.inl (.head _))
  have nbD:b≠D:=jf jb hD
  have hD0:H D=none:=kp3.free hD
  refine jmo (λi σ' H'=>∃(v:Option V)(gs:List Int)(o':HO),σ'=[v,some (.ref b),some (.int (N:Int))]/\H' b=some o'/\BoxO o'/\H' D=some (.lst (gs.map V.int))/\gs.length=i/\(∀t∈gs,0<=t/\t<(N:Int))/\Kp [b] H H') ?_ ?_ ?_
  ·exact⟨none,[],_,rfl,by rw[jd nbD,jb],ho3,by rw[jb];rfl,rfl,(λt ht=>nomatch ht),kp3.new hD⟩
  ·rintro i c σ' H' hc ⟨v,gs,o',rfl,hb',ho',hD',hl,hg,kp⟩
   have hil:i<z.length:=by
    have:=(Ab.mp hc).1
    simpa[Str.length]using this
   obtain⟨xs',rfl⟩:=ex (H':=H) ho'
   simp! [je4]
   refine⟨b,(N:Int),_,rfl,hb',ho',by omega,by omega,λe o4 e0 e1 ho4=>?_⟩
   have hD4:upd H' b o4 D=some (.lst (gs.map V.int)):=by rw[jd nbD.symm];exact hD'
   simp! [hD4,Aa]
   refine⟨by omega,gs++[e],o4,by rw[jd nbD,jb],ho4,by simp,by simp[hl],λt ht=>?_,(kp.set hb' (.inl (.head _))).set hD4 (.inr hD0)⟩
   rcases A0.mp ht with ht|ht
   ·exact hg t ht
   ·simp at ht;subst ht;exact⟨e0,e1⟩
  ·rintro σ' H' ⟨v,gs,o',rfl,hb',ho',hD',hl,hg,kp⟩
   refine⟨by omega,λp hp=>⟨by omega,by omega,?_⟩⟩
   rw[Int.toNat_natCast]
   have nbp:b≠p:=jf hb' hp
   have nDp:D≠p:=jf hD' hp
   have hp0:H p=none:=kp.free hp
   obtain⟨V1,hV1⟩:∃V1:Nat->L2.St->Hp->Prop,∀i σ H',V1 i σ H'↔(∃(v8 v9 v10 v11 v12:Option V)(rs:List V)(rows:List (List Int))(o':HO),σ=[some (.ref b),some (.str z),some (.int (n:Int)),some (.int (N:Int)),some (.int kd),some (.int tn),some (.ref D),some (.ref p),v8,v9,v10,v11,v12]/\H' b=some o'/\BoxO o' /\
    H' D=some (.lst (gs.map V.int))/\H' p=some (.lst rs)/\Reps H' rs (rows.map rowD)/\rows.length=i/\(∀r∈rows,r.length=z.length/\∀t∈r,0<=t/\t<(N:Int))/\Kp [b] H H'):=⟨_,λ_ _ _=>O7⟩
   refine jd7 V1 ?_ ?_ ?_
   ·refine(hV1 _ _ _).mpr ⟨none,none,none,none,none,[],[],o',rfl,by rw[jd nbp];exact hb',ho',by rw[jd nDp];exact hD',jb,by simp[Reps],rfl,(λr hr=>nomatch hr),kp.new hp⟩
   ·intro i σ H1 hi hw
    obtain⟨v8,v9,v10,v11,v12,rs,rows,o1',rfl,hb1,ho1',hD1,hp1,hrs,hrl,hrg,kp1'⟩:=(hV1 _ _ _).mp hw
    clear hw
    simp!
    refine⟨by omega,λq hq=>⟨by omega,by omega,by omega,?_⟩⟩
    rw[Int.toNat_natCast]
    have nbq:b≠q:=jf hb1 hq
    have nDq:D≠q:=jf hD1 hq
    have npq:p≠q:=jf hp1 hq
    have hq0:H q=none:=kp1'.free hq
    have ei:(0:Int)+(i:Int)=(i:Int):=by omega
    obtain⟨V2,hV2⟩:∃V2:Nat->L2.St->Hp->Prop,∀j σ H',V2 j σ H'↔(∃(v10 v11:Option V)(row:List Int)(o':HO),σ=[some (.ref b),some (.str z),some (.int (n:Int)),some (.int (N:Int)),some (.int kd),some (.int tn),some (.ref D),some (.ref p),some (.int (0+(i:Int))),some (.ref q),v10,v11,v12]/\H' b=some o'/\BoxO o' /\
     H' D=some (.lst (gs.map V.int))/\H' p=some (.lst rs)/\Reps H' rs (rows.map rowD)/\H' q=some (.lst (row.map V.int))/\row.length=j/\(∀t∈row,0<=t/\t<(N:Int))/\Kp [b] H H'):=⟨_,λ_ _ _=>O7⟩
    refine jd7 V2 ?_ ?_ ?_
    ·exact(hV2 _ _ _).mpr ⟨v10,v11,[],o1',rfl,by rw[jd nbq];exact hb1,ho1',by rw[jd nDq];exact hD1,by rw[jd npq];exact hp1,Reps.kp ((Kp.refl [] H1).new hq) (jd4 rows) hrs,jb,rfl,(λt ht=>nomatch ht),kp1'.new hq⟩
    ·intro j σ H2 hj hw
     obtain⟨v10,v11,row,o2',rfl,hb2,ho2',hD2,hp2,hrs2,hq2,hrow,hgood,kp2⟩:=(hV2 _ _ _).mp hw
     clear hw
     obtain⟨xs2,rfl⟩:=ex (H':=H) ho2'
     simp!
     refine⟨b,(N:Int),_,rfl,hb2,ho2',by omega,by omega,λg o4 g0 g1 ho4=>?_⟩
     have kpb:Kp [b] H2 (upd H2 b o4):=(Kp.refl [b] H2).set hb2 (.inl (.head _))
     refine⟨JG b p q D z n N kd tn i j v12 H2,?_,?_⟩
     ·simp!
      have mx:∀x:Int,x=(if g>0+(i:Int)then g else 0+(i:Int))->0<=x/\x<(N:Int):=λx e=>by split at e <;> omega
      exact ite2 (λ_=>⟨_,o4,rfl,(mx _ rfl).1,(mx _ rfl).2,jb,ho4,kpb⟩) λ_=>ite2 (λ_=>⟨_,o4,rfl,(mx _ rfl).1,(mx _ rfl).2,jb,ho4,kpb⟩) λ_=>⟨g,o4,rfl,g0,g1,jb,ho4,kpb⟩
     ·rintro σ H3 ⟨g,o3,rfl,g0,g1,hb3,ho3,kk⟩
      refine⟨JG b p q D z n N kd tn i j v12 H2,?_,?_⟩
      ·simp!
       refine ite2 (λ_=>?_) λ_=>⟨g,o3,rfl,g0,g1,hb3,ho3,kk⟩
       have hD3:=kk.old _ _ hD2 (by simp[nbD.symm])
       have hjg:j<gs.length:=by omega
       have hat:atI (gs.map V.int) ((0:Int)+(j:Int))=some (.int (gs.getD j 0)):=by
        refine jg2 (by omega) ?_
        have:((0:Int)+(j:Int)).toNat=j:=by omega
        rw[this]
        simp[hjg]
       have hgj:=hg (gs.getD j 0) (by simp[Ag,hjg])
       refine⟨_,by rw[hD3];rfl,_,hat,by omega,λq2 hq2'=>?_⟩
       have nb2:b≠q2:=jf hb3 hq2'
       obtain⟨xs5,rfl⟩:=ex (H':=H) ho3
       refine⟨b,2,_,rfl,by rw[jd nb2];exact hb3,ho3,by omega,by omega,λe o5 e0 e1 ho5=>?_⟩
       have k5:Kp [b] H2 (upd (upd H3 q2 (.lst [.int (0+(i:Int)),.int (gs.getD j 0)])) b o5):=(kk.new hq2').set (by rw[jd nb2];exact hb3) (.inl (by simp))
       have hl2:upd (upd H3 q2 (.lst [.int (0+(i:Int)),.int (gs.getD j 0)])) b o5 q2=some (.lst [.int (0+(i:Int)),.int (gs.getD j 0)]):=by rw[jd nb2.symm,jb]
       have hb5:upd (upd H3 q2 (.lst [.int (0+(i:Int)),.int (gs.getD j 0)])) b o5 b=some o5:=jb
       generalize upd (upd H3 q2 (.lst [.int (0+(i:Int)),.int (gs.getD j 0)])) b o5=H5 at k5 hl2 hb5
       rcases(by omega:e=0\/e=1)with rfl|rfl
       ·simp! [hl2]
        exact⟨_,o5,rfl,by omega,by omega,hb5,ho5,k5⟩
       ·simp! [hl2]
        exact⟨_,o5,rfl,hgj.1,hgj.2,hb5,ho5,k5⟩
      ·rintro σ H3 ⟨g,o3,rfl,g0,g1,hb3,ho3,kk⟩
       refine⟨JG b p q D z n N kd tn i j v12 H2,?_,?_⟩
       ·simp!
        exact ite2 (λ_=>ite2 (λ_=>⟨by omega,_,o3,rfl,Int.emod_nonneg _ (by omega),Yh _ (by omega),hb3,ho3,kk⟩) λ_=>⟨g,o3,rfl,g0,g1,hb3,ho3,kk⟩) λ_=>⟨g,o3,rfl,g0,g1,hb3,ho3,kk⟩
       ·rintro σ H3 ⟨g,o3,rfl,g0,g1,hb3,ho3,kk⟩
        have hD3:=kk.old _ _ hD2 (by simp[nbD.symm])
        have hp3:=kk.old _ _ hp2 (by simp[nbp.symm])
        have hq3:=kk.old _ _ hq2 (by simp[nbq.symm])
        simp! [hq3,Aa]
        refine⟨by omega,(hV2 _ _ _).mpr ⟨_,_,row++[g],o3,rfl,by rw[jd nbq];exact hb3,ho3,by rw[jd nDq];exact hD3,by rw[jd npq];exact hp3,?_,by rw[jb,I0];rfl,by simp[hrow],λt ht=>?_,(kp2.trans kk).set hq3 (.inr hq0)⟩⟩
        ·exact Reps.kp ((Kp.refl [q] H3).set hq3 (.inl (.head _))) (jd4 rows) (Reps.kp kk (jd4 rows) hrs2)
        ·rcases A0.mp ht with ht|ht
         ·exact hgood t ht
         ·simp at ht;subst ht;exact⟨g0,g1⟩
    ·intro σ H2 hw
     obtain⟨v10,v11,row,o2',rfl,hb2,ho2',hD2,hp2,hrs2,hq2,hrow,hgood,kp2⟩:=(hV2 _ _ _).mp hw
     clear hw
     simp! [hp2]
     refine jd1 hq2 λl hl=>?_
     have npl:p≠l:=jf hp2 hl
     have nbl:b≠l:=jf hb2 hl
     have nDl:D≠l:=jf hD2 hl
     have hp3:upd H2 l (.tup (row.map V.int)) p=some (.lst rs):=by rw[jd npl];exact hp2
     simp! [hp3]
     have rsl:rs.length=i:=by rw[Reps.len hrs2,Aa];exact hrl
     refine⟨by omega,(hV1 _ _ _).mpr ⟨_,_,_,_,_,_,rows++[row],o2',rfl,by rw[jd nbp,jd nbl];exact hb2,ho2',by rw[jd nDp,jd nDl];exact hD2,jb,?_,by simp[hrl],λr hr'=>?_,(kp2.new hl).set hp3 (.inr hp0)⟩⟩
     ·have k3:Kp [p] H2 (upd (upd H2 l (.tup (row.map V.int))) p (.lst (rs++[.ref l]))):=((Kp.refl [p] H2).new hl).set hp3 (.inl (.head _))
      rw[I0]
      refine Reps.app (Reps.kp k3 (jd4 rows) hrs2) ?_
      simp only[Ak,Au,Reps,Rep,rowD,Ii]
      exact⟨l,_,rfl,by rw[jd npl.symm,jb],Reps.ints _ row⟩
     ·rcases A0.mp hr' with h|h
      ·exact hrg r h
      ·simp at h;subst h;exact⟨by omega,hgood⟩
   ·intro σ H1 hw
    obtain⟨v8,v9,v10,v11,v12,rs,rows,o1',rfl,hb1,ho1',hD1,hp1,hrs,hrl,hrg,kp1'⟩:=(hV1 _ _ _).mp hw
    clear hw
    simp!
    refine⟨by omega,by omega,λY hY=>?_⟩
    rw[Int.toNat_natCast]
    have nbY:b≠Y:=jf hb1 hY
    have npY:p≠Y:=jf hp1 hY
    refine jd7 (λi σ' H'=>∃(v:Option V)(ys:List Bool)(o':HO),σ'=[v,some (.ref b)]/\H' b=some o'/\BoxO o'/\H' Y=some (.lst (ys.map V.bl))/\ys.length=i/\Kp [b] H1 H') ?_ ?_ ?_
    ·exact⟨none,[],o1',rfl,by rw[jd nbY];exact hb1,ho1',by rw[jb];rfl,rfl,(Kp.refl [b] H1).new hY⟩
    ·rintro i σ' H2 hi ⟨v,ys,o2',rfl,hb2,ho2',hY2,hyl,kp2⟩
     obtain⟨xs2,rfl⟩:=ex (H':=H) ho2'
     simp! [je4]
     refine⟨b,2,_,rfl,hb2,ho2',by omega,by omega,λe o4 e0 e1 ho4=>?_⟩
     have hY4:upd H2 b o4 Y=some (.lst (ys.map V.bl)):=by rw[jd nbY.symm];exact hY2
     simp! [hY4,Aa]
     exact⟨by omega,ys++[decide (e=1)],o4,by rw[jd nbY,jb],ho4,by simp,by simp[hyl],(kp2.set hb2 (.inl (.head _))).set hY4 (.inr hY)⟩
    ·rintro σ' H2 ⟨v,ys,o2',rfl,hb2,ho2',hY2,hyl,kp2⟩
     obtain⟨xs2,rfl⟩:=ex (H':=H) ho2'
     refine⟨JY b p z n N kd tn D rs rows v8 v9 v10 v11 H,?_,?_⟩
     ·simp!
      refine⟨b,8,_,rfl,hb2,ho2',by omega,by omega,λe o4 e0 e1 ho4=>?_⟩
      have kk:Kp [b] H1 (upd H2 b o4):=kp2.set hb2 (.inl (.head _))
      have hY4:upd H2 b o4 Y=some (.lst (ys.map V.bl)):=by rw[jd nbY.symm];exact hY2
      have hp4:upd H2 b o4 p=some (.lst rs):=kk.old _ _ hp1 (by simp[nbp.symm])
      simp! [hY4]
      refine ite2 (λ_=>?_) λ_=>⟨Y,ys,o4,rfl,jb,ho4,hp4,Reps.kp kk (jd4 rows) hrs,hY4,hyl,kp1'.trans kk⟩
      cases ys with
      |nil=>simp at hyl;omega
      |cons y0 yr =>
       refine⟨.bl y0,by rw[Ak];exact jdm _ _,by omega,λp1 hp1'=>⟨by omega,by omega,by omega,λp2 hp2'=>?_⟩⟩
       rw[jjd .non]
       have k5:Kp [b] H1 (upd (upd (upd H2 b o4) p1 (.lst [.bl y0])) p2 (.lst ((List.replicate N y0).map V.bl))):=(kk.new hp1').new hp2'
       have n1:b≠p1:=jf jb hp1'
       have n2:b≠p2:=jf (by rw[jd n1,jb]) hp2'
       exact⟨p2,_,o4,rfl,by rw[jd n2,jd n1,jb],ho4,k5.old _ _ hp1 (by simp[nbp.symm]),Reps.kp k5 (jd4 rows) hrs,jb,by simp,kp1'.trans k5⟩
     ·rintro σ H3 ⟨Y,ys,o3',rfl,hb3,ho3',hp3,hrs3,hY3,hyl,kp3⟩
      simp!
      refine jd1 hp3 λl1 hl1=>?_
      have nY1:Y≠l1:=jf hY3 hl1
      refine jd1 (ys:=ys.map V.bl) (by rw[jd nY1];exact hY3) λl2 hl2=>⟨by omega,λl3 hl3=>?_⟩
      have n12:l1≠l2:=jf jb hl2
      have n13:l1≠l3:=jf (by rw[jd n12,jb]) hl3
      have n23:l2≠l3:=jf jb hl3
      have kA:Kp [] H3 (upd (upd (upd H3 l1 (.tup rs)) l2 (.tup (ys.map V.bl))) l3 (.tup [.str z,.ref l1,.ref l2])):=(((Kp.refl [] H3).new hl1).new hl2).new hl3
      refine k l3 ⟨z,rows,ys⟩ o3' _ rfl ⟨hz,by show 1<=rows.length;omega,by show rows.length<=n;omega,by show ys.length=rows.length;omega,λr hr=>?_⟩ ho3' (kA.old _ _ hb3 Aj) (kp3.trans (kA.mono (λ_ h=>nomatch h))) ?_
      ·have:=hrg r hr
       exact⟨this.1,λt ht=>by have:=this.2 t ht;show 0<=t/\t<(rows.length:Int);omega⟩
      ·simp only[Mach.D,Rep]
       refine⟨l3,_,rfl,jb,?_⟩
       simp only[Reps,Rep,Ii]
       exact⟨trivial,⟨l1,rs,rfl,by rw[jd n13,jd n12,jb],Reps.kp kA (jd4 rows) hrs3⟩,⟨l2,_,rfl,by rw[jd n23,jb],Reps.bools _ ys⟩⟩
end
local macro_rules
 | `(tactic| simp!)=>`(tactic| simp only [tSeq,tIfS,jdl,tOp,tVar,tC,tAsg,jc4,gSub,tRet,jdi,jdf,jdg,tAnd,tOr,tNot,jda,jdj,tB,jdd,rI0,rI,jb2,jb4,jb9,jca,jcn,jco,jcm,jcg,jb7,jb6,jb8,jb5,jck,jb1,jb0,jcb,jby,jci,jcz,jcj,jch,jcp,jc1,jcr,jcq,jcc,jcy,jb3,jcf,jcd,jce,Option.isSome_some,tBML,tCB,jde,tNil,tLst,tTup,jdn,tSl,jdk,jcw,jcs,iAny,jdb,jc5,jc7,jcv,jdc,tAug,ipI,jc2,jc9,jcu,jcx,jdh,jc8,hdl,jc0,jcl,tBM,jc3,Option.bind_some,Option.bind_none,Option.getD_some,L2.start,Ak,Au,List.length_cons,List.length_nil,List.cons_append,List.nil_append,Aq,At,List.replicate,List.getElem?_cons_zero,List.getElem?_cons_succ,List.set_cons_zero,List.set_cons_succ,Nat.reduceSub,Nat.reduceAdd,Nat.reduceLeDiff,Ap,V.int.injEq,V.bl.injEq,V.str.injEq,V.ref.injEq,HO.lst.injEq,HO.tup.injEq,Aw,A3,Ax,Is,Ii,jb,jct,jdm,jdp,jdq,A4,Az,Ao,Af,Ih,Ik,reduceIte,reduceCtorEq,jc6,tLam,jbz])
 | `(tactic| simp! [$ls,*])=>`(tactic| simp only [tSeq,tIfS,jdl,tOp,tVar,tC,tAsg,jc4,gSub,tRet,jdi,jdf,jdg,tAnd,tOr,tNot,jda,jdj,tB,jdd,rI0,rI,jb2,jb4,jb9,jca,jcn,jco,jcm,jcg,jb7,jb6,jb8,jb5,jck,jb1,jb0,jcb,jby,jci,jcz,jcj,jch,jcp,jc1,jcr,jcq,jcc,jcy,jb3,jcf,jcd,jce,Option.isSome_some,tBML,tCB,jde,tNil,tLst,tTup,jdn,tSl,jdk,jcw,jcs,iAny,jdb,jc5,jc7,jcv,jdc,tAug,ipI,jc2,jc9,jcu,jcx,jdh,jc8,hdl,jc0,jcl,tBM,jc3,Option.bind_some,Option.bind_none,Option.getD_some,L2.start,Ak,Au,List.length_cons,List.length_nil,List.cons_append,List.nil_append,Aq,At,List.replicate,List.getElem?_cons_zero,List.getElem?_cons_succ,List.set_cons_zero,List.set_cons_succ,Nat.reduceSub,Nat.reduceAdd,Nat.reduceLeDiff,Ap,V.int.injEq,V.bl.injEq,V.str.injEq,V.ref.injEq,HO.lst.injEq,HO.tup.injEq,Aw,A3,Ax,Is,Ii,jb,jct,jdm,jdp,jdq,A4,Az,Ao,Af,Ih,Ik,reduceIte,reduceCtorEq,jc6,tLam,jbz,$ls,*])
structure MA(H:Hp)(m:Mach)(p a1 a2:Addr)(rs:List V):Prop where
 t0:H p=some (.tup [.str m.z,.ref a1,.ref a2])
 t1:H a1=some (.tup rs)
 t2:H a2=some (.tup (m.ye.map V.bl))
 rl:rs.length=m.mv.length
 rw:∀i,i<m.mv.length->∃r,rs[i]?=some (.ref r)/\H r=some (.tup ((m.mv.getD i []).map V.int))
theorem MA.kp{S:List Addr}{H H':Hp}(k:Kp S H H'){m:Mach}{p a1 a2:Addr}{rs:List V}(h:MA H m p a1 a2 rs):MA H' m p a1 a2 rs :=
 ⟨k.tup _ _ h.t0,k.tup _ _ h.t1,k.tup _ _ h.t2,h.rl,λi hi=>let⟨r,e1,e2⟩:=h.rw i hi;⟨r,e1,k.tup _ _ e2⟩⟩
theorem je1{H:Hp}:∀{vs:List V}{ds:List PyData}{i:Nat}{d:PyData},Reps H vs ds->ds[i]?=some d->∃v,vs[i]?=some v/\Rep H v d
 |[],[],_,_,_,e=>by simp at e
 |[],_::_,_,_,h,_=>by simp only[Reps]at h
 |_::_,[],_,_,h,_=>by simp only[Reps]at h
 |v::vs,d::ds,0,_,h,e=>by simp only[Reps]at h;simp at e;subst e;exact⟨v,rfl,h.1⟩
 |v::vs,d::ds,i+1,_,h,e=>by simp only[Reps]at h;exact je1 (i:=i) h.2 (by simpa using e)
theorem jgu{H:Hp}{α:Type}{f:α->V}{g:α->PyData}(hv:∀x v,Rep H v (g x)->v=f x):∀{l:List α}{vs:List V},Reps H vs (l.map g)->vs=l.map f
 |[],[],_=>rfl
 |[],_::_,h=>by simp only[Au,Reps]at h
 |_::_,[],h=>by simp only[Ak,Reps]at h
 |x::l,v::vs,h=>by simp only[Ak,Reps]at h;rw[Ak,hv x v h.1,jgu hv h.2]
theorem v3L{C:List V->Prop}(h:∀v0 v1 v2:V,C [v0,v1,v2])(us:List V)(e:us.length=3):C us:=by
 cases us with
 |nil=>exact absurd e.symm (Oh _)
 |cons v0 us =>
  cases us with
  |nil=>exact absurd (Oj (e.symm)) (Oh _)
  |cons v1 us =>
   cases us with
   |nil=>exact absurd (Oj (Oj (e.symm))) (Oh _)
   |cons v2 us =>
    cases us with
    |nil=>exact h v0 v1 v2
    |cons _ _=>exact absurd (Oj (Oj (Oj (e)))) (Oh _)
theorem Mach.opened{H:Hp}{m:Mach}{p:Addr}(h:Rep H (.ref p) m.D):∃a1 a2 rs,MA H m p a1 a2 rs:=by
 simp only[Mach.D,Rep]at h
 obtain⟨a,vs,e,h0,hr⟩:=h
 cases e
 obtain⟨v0,e0,r0⟩:=je1 (i:=0) hr rfl
 obtain⟨v1,e1,r1⟩:=je1 (i:=1) hr rfl
 obtain⟨v2,e2,r2⟩:=je1 (i:=2) hr rfl
 have hl:=Reps.len hr
 simp only[Rep]at r0 r1 r2
 subst r0
 obtain⟨a1,rs,rfl,h1,hr1⟩:=r1
 obtain⟨a2,ys,rfl,h2,hr2⟩:=r2
 have ev:vs=[.str m.z,.ref a1,.ref a2]:=by
  exact v3L (C:=λvs=>vs[0]?=some _->vs[1]?=some _->vs[2]?=some _->vs=_) (λx y w e0 e1 e2=>by simp at e0 e1 e2;rw[e0,e1,e2]) vs hl e0 e1 e2
 subst ev
 have ey:ys=m.ye.map V.bl:=jgu (f:=V.bl) (λx v h=>by simpa only[Rep]using h) hr2
 subst ey
 refine⟨a1,a2,rs,h0,h1,h2,by rw[Reps.len hr1,Aa],λi hi=>?_⟩
 obtain⟨v,ev,rv⟩:=je1 (i:=i) (d:=rowD (m.mv.getD i [])) hr1 (by rw[A9];simp[hi])
 simp only[rowD,Rep]at rv
 obtain⟨r,us,rfl,hr',hu⟩:=rv
 have eu:us=(m.mv.getD i []).map V.int:=jgu (f:=V.int) (λx v h=>by simpa only[Rep]using h) hu
 subst eu
 exact⟨r,ev,hr'⟩
theorem getD_some{α:Type}(l:List α)(i:Nat)(d:α)(h:i<l.length):l[i]?=some (l.getD i d):=by
 rw[Ag,Ic h]
 rfl
theorem jex{α:Type}(l:List α)(i:Nat)(d:α)(h:i<l.length):l.getD i d∈l:=Ay (getD_some l i d h)
def dl(m:Mach)(p a:Nat):Nat:=((m.mv.getD p []).getD a 0).toNat
def yy(m:Mach)(p:Nat):Bool:=m.ye.getD p false
theorem Mach.Ok.cell{m:Mach}{N:Nat}(ok:Mach.Ok m N){p a:Nat}(hp:p<m.mv.length)(ha:a<m.z.length):(m.mv.getD p []).length=m.z.length/\(m.mv.getD p []).getD a 0=((dl m p a:Nat):Int)/\dl m p a<m.mv.length:=by
 have hm:m.mv.getD p []∈m.mv:=jex _ _ _ hp
 obtain⟨h1,h2⟩:=ok.row _ hm
 have h3:=h2 ((m.mv.getD p []).getD a 0) (jex _ _ _ (by omega))
 unfold dl
 refine⟨h1,by omega,by omega⟩
theorem je5{m:Mach}{N p:Nat}(ok:Mach.Ok m N)(hp:p<m.mv.length):atI (m.ye.map V.bl) ((p:Nat):Int)=some (.bl (yy m p)):=by
 refine jdv ?_
 have:p<m.ye.length:=by rw[ok.yl];exact hp
 rw[A9]
 simp[yy,this]
theorem jg3{m:Mach}{N p a:Nat}(ok:Mach.Ok m N)(hp:p<m.mv.length)(ha:a<m.z.length):atI ((m.mv.getD p []).map V.int) ((a:Nat):Int)=some (.int ((dl m p a:Nat):Int)):=by
 obtain⟨h1,h2,h3⟩:=ok.cell hp ha
 refine jdv ?_
 rw[A9]
 have:(m.mv.getD p [])[a]?=some ((m.mv.getD p []).getD a 0):=getD_some _ _ _ (by omega)
 rw[this,h2];rfl
def mvD(m:Mach):List (List Nat):=m.mv.map λr=>r.map Int.toNat
theorem jke{H:Hp}:∀{rs:List V}{mv:List (List Int)},rs.length=mv.length->(∀i,i<mv.length->∃r,rs[i]?=some (.ref r)/\H r=some (.tup ((mv.getD i []).map V.int)))->(∀r∈mv,∀t∈r,0<=t)->RowsM H rs (mv.map λr=>r.map Int.toNat)
 |[],[],_,_,_=>.nil
 |v::rs,r::mv,hl,h,nn=>by
  refine .cons ?_ (jke (by simpa using hl) (λi hi=>?_) λr' h'=>nn r' (.tail _ h'))
  ·obtain⟨a,e1,e2⟩:=h 0 (by simp)
   have e1:v=.ref a:=by simpa using e1
   refine⟨a,e1,?_⟩
   rw[e2,Oq]
   congr 2
   refine Om λt ht=>?_
   have:=nn r (.head _) t (by simpa using ht)
   show V.int t=V.int ((t.toNat:Nat):Int)
   rw[Int.toNat_of_nonneg this]
  ·obtain⟨a,e1,e2⟩:=h (i+1) (by simpa using hi)
   exact⟨a,by simpa using e1,by simpa using e2⟩
theorem MA.mh{H:Hp}{m:Mach}{p a1 a2:Addr}{rs:List V}{n:Nat}(h:MA H m p a1 a2 rs)(ok:Mach.Ok m n)(n9:n<=1000):MH H p m.z a1 a2 rs (mvD m) m.z.length m.ye:=by
 have zl:m.z.length<=1000:=by have:=ok.let4.hi;omega
 refine⟨h.t0,h.t1,jke h.rl h.rw λr hr t ht=>((ok.row r hr).2 t ht).1,⟨λrow hrow=>?_,λrow hrow x hx=>?_⟩,h.t2,by rw[ok.yl];simp[mvD],by simpa[mvD]using ok.n1,by have:=ok.nh;simp[mvD];omega,zl⟩
 ·obtain⟨r,hr,rfl⟩:=Ij.mp hrow
  rw[Aa];exact(ok.row r hr).1
 ·obtain⟨r,hr,rfl⟩:=Ij.mp hrow
  obtain⟨t,ht,rfl⟩:=Ij.mp hx
  have:=(ok.row r hr).2 t ht
  simp[mvD];omega
local macro_rules
 | `(tactic| simp!)=>`(tactic| simp only [tSeq,tIfS,jdl,tOp,tVar,tC,tAsg,jc4,gSub,tRet,jdi,jdf,jdg,tAnd,tOr,tNot,jda,jdj,tB,jdd,rI0,rI,jb2,jb4,jb9,jca,jcn,jco,jcm,jcg,jb7,jb6,jb8,jb5,jck,jb1,jb0,jcb,jby,jci,jcz,jcj,jch,jcp,jc1,jcr,jcq,jcc,jcy,jb3,jcf,jcd,jce,Option.isSome_some,tBML,tCB,jde,tNil,tLst,tTup,jdn,tSl,jdk,jcw,jcs,iAny,jdb,jc5,jc7,jcv,jdc,tAug,ipI,jc2,jc9,jcu,jcx,jdh,jc8,hdl,jc0,jcl,tBM,jc3,Option.bind_some,Option.bind_none,Option.getD_some,L2.start,Ak,Au,List.length_cons,List.length_nil,List.cons_append,List.nil_append,Aq,At,List.replicate,List.getElem?_cons_zero,List.getElem?_cons_succ,List.set_cons_zero,List.set_cons_succ,Nat.reduceSub,Nat.reduceAdd,Nat.reduceLeDiff,Ap,V.int.injEq,V.bl.injEq,V.str.injEq,V.ref.injEq,HO.lst.injEq,HO.tup.injEq,Aw,A3,Ax,Is,Ii,jb,jct,jdm,jdp,jdq,A4,Az,Ao,Af,Ih,Ik,reduceIte,reduceCtorEq,jc6,tLam,jbz])
 | `(tactic| simp! [$ls,*])=>`(tactic| simp only [tSeq,tIfS,jdl,tOp,tVar,tC,tAsg,jc4,gSub,tRet,jdi,jdf,jdg,tAnd,tOr,tNot,jda,jdj,tB,jdd,rI0,rI,jb2,jb4,jb9,jca,jcn,jco,jcm,jcg,jb7,jb6,jb8,jb5,jck,jb1,jb0,jcb,jby,jci,jcz,jcj,jch,jcp,jc1,jcr,jcq,jcc,jcy,jb3,jcf,jcd,jce,Option.isSome_some,tBML,tCB,jde,tNil,tLst,tTup,jdn,tSl,jdk,jcw,jcs,iAny,jdb,jc5,jc7,jcv,jdc,tAug,ipI,jc2,jc9,jcu,jcx,jdh,jc8,hdl,jc0,jcl,tBM,jc3,Option.bind_some,Option.bind_none,Option.getD_some,L2.start,Ak,Au,List.length_cons,List.length_nil,List.cons_append,List.nil_append,Aq,At,List.replicate,List.getElem?_cons_zero,List.getElem?_cons_succ,List.set_cons_zero,List.set_cons_succ,Nat.reduceSub,Nat.reduceAdd,Nat.reduceLeDiff,Ap,V.int.injEq,V.bl.injEq,V.str.injEq,V.ref.injEq,HO.lst.injEq,HO.tup.injEq,Aw,A3,Ax,Is,Ii,jb,jct,jdm,jdp,jdq,A4,Az,Ao,Af,Ih,Ik,reduceIte,reduceCtorEq,jc6,tLam,jbz,$ls,*])
def txt(m:Mach)(w:List Nat):Str:=toS (w.map λa=>m.z.cps.toList.getD a 0)
theorem jgw(m:Mach)(w:List Nat)(a:Nat):txt m w++(⟨#[m.z.cps.toList.getD a 0]⟩:Str)=txt m (w++[a]):=by
 unfold txt
 rw[jkk,I0]
 rfl
theorem jhz(m:Mach)(w:List Nat):(txt m w).length=w.length:=by simp[txt,jga]
theorem jej{m:Mach}{N:Nat}(ok:Mach.Ok m N):∀{w:List Nat}{p:Nat},p<m.mv.length->Ov m.z.length w->run (dl m) p w<m.mv.length
 |[],_,hp,_=>hp
 |a::w,p,hp,ho=>jej ok (w:=w) (p:=dl m p a) (ok.cell hp (ho a (by simp))).2.2 λb hb=>ho b (by simp[hb])
theorem jjf(m:Mach)(p:Nat)(w:List Nat)(a:Nat):run (dl m) p (w++[a])=dl m (run (dl m) p w) a:=by rw[jes];rfl
structure MS(H:Hp)(m:Mach)(p a1 a2:Addr)(rs:List V):Prop where
 t0:H p=some (.tup [.str m.z,.ref a1,.ref a2])
 t1:jeq (H a1)=some rs
 t2:jeq (H a2)=some (m.ye.map V.bl)
 rl:rs.length=m.mv.length
 rw:∀i,i<m.mv.length->∃r,rs[i]?=some (.ref r)/\H r=some (.tup ((m.mv.getD i []).map V.int))
theorem jl6{H H':Hp}(k:Kp [] H H'){a:Addr}{xs:List V}(h:jeq (H a)=some xs):jeq (H' a)=some xs:=by
 cases e:H a with
 |none=>rw[e]at h;cases h
 |some o=>rw[k.old _ _ e Aj,<-e];exact h
theorem MS.kp{H H':Hp}(k:Kp [] H H'){m:Mach}{p a1 a2:Addr}{rs:List V}(h:MS H m p a1 a2 rs):MS H' m p a1 a2 rs :=
 ⟨k.tup _ _ h.t0,jl6 k h.t1,jl6 k h.t2,h.rl,λi hi=>let⟨r,e1,e2⟩:=h.rw i hi;⟨r,e1,k.tup _ _ e2⟩⟩
def resV(m:Mach):Option (List Nat)->V
 |Option.none=>.non
 |some w=>.str (txt m w)
def jki:Sp:=λvs H Q _=>∃(p:Addr)(m:Mach)(one other N:Nat),vs=[.ref p,.int (one:Int),.int (other:Int)]/\(∃a1 a2 rs,MS H m p a1 a2 rs)/\Mach.Ok m N/\N<=1000/\one<m.mv.length/\other<m.mv.length /\
 ∀r H',Res (dl m) (yy m) m.z.length one other r->(∀w,r=some w->w.length<=1000001)->Kp [] H H'->Q (resV m r) H'
def itD(m:Mach)(one other:Nat)(w:List Nat):PyData:=.tuple [.int ((run (dl m) one w:Nat):Int),.int ((run (dl m) other w:Nat):Int),.str (txt m w)]
theorem jft(m:Mach)(one other:Nat):∀Q:List (List Nat),jd5 (Q.map (itD m one other))=true
 |[]=>rfl
 |_::r=>by simp[jd5,jek,itD,jft m one other r]
def Sk(m:Mach)(one other:Nat)(Q:List (List Nat))(k:Nat)(p q:Nat):Prop:=∃i u,i<k/\Q[i]?=some u/\p=run (dl m) one u/\q=run (dl m) other u
def Par(L:Nat)(Qs:List (List Nat))(kk:Nat):Prop:=∀v∈Qs,v=[]\/∃(i:Nat)(t:List Nat)(b:Nat),i<kk/\Qs[i]?=some t/\v=t++[b]/\b<L
structure TApart(mg:Str->Option Value)(fj:Addr):Prop where
 n_len:mg "len"=none
 n_list:mg "list"=none
 n_range:mg "range"=none
 n_enumerate:mg "enumerate"=none
 m15z:mg "join_rooms"=some (.ref fj)
section
variable{P:Program}{w:World}{K:PySem.W.Frag}{mg:Str->Option Value}{base:Heap}
abbrev z8:Stmt:=top 11
theorem yp:FnScope ["machine","one","other","letters","moves","yes","heads","due","place","pair","sign","letter","left","right"] ["machine","one","other"] (jh z8):=⟨rfl,rfl,rfl,by decide +kernel,rfl,by decide +kernel,by decide +kernel⟩
theorem ok_apart{f fj:Addr}{fd fdj:FuncData}(F:Fun K "apart" "apart" z8 f fd)(T:TApart mg fj)(F15z:Fun K "join_rooms" "join_rooms" yz fj fdj)(b15z:Binds K fdj ["heads","one","other"] [])
  (G15z:FnOk P w K mg base CX0 2 fj fdj ["heads","one","other"] jma):FnOk P w K mg base CX0 3 f fd ["machine","one","other"] jki:=by
 refine F.ok yp (λvs H Q E h=>?_) (λcdv A outer s H vs Q E hr h=>?_)
 ·obtain⟨p,m,one,other,N,rfl,_⟩:=h
  rfl
 ·obtain⟨p,m,one,other,N,rfl,hm,ok,hN,h1,h2,k⟩:=h
  have hu:=hr.units
  have hsz:sizeLine=16777216:=Iw
  have zl:=ok.let4.lo
  have zh:=ok.let4.hi
  have nh:=ok.nh
  have n1:=ok.n1
  obtain⟨a1,a2,rs,ma⟩:=hm
  refine exQ (jg (jk (i:=3) yp.nd rfl (by ac_rfl) (ji ix_U (qpv 0) je (λ_ _=>rfl)))
  (jg (jk (i:=4) yp.nd rfl (by ac_rfl) (ji ix_U (qpv 0) je (λ_ _=>rfl)))
  (jg (jk (i:=5) yp.nd rfl (by ac_rfl) (ji ix_U (qpv 0) je (λ_ _=>rfl)))
  (ym (ki (jr (zw hu) (ji ix_U (qpv 5) (qpv 1) (λ_ _=>rfl)) (ji ix_U (qpv 5) (qpv 2) (λ_ _=>rfl)) (jz _)) (jj (jx yk)) j8)
  (jg (jk (i:=6) yp.nd rfl (by ac_rfl) (ju (jaq rfl) (by rfl) T.n_list zn (ja (ju jam (by rfl) T.n_range ja2 (ja (jn j4 (by rfl) T.n_len ke (ja (qpv 4) jc)) jc)) jc)))
  (jg (jk (i:=7) yp.nd rfl (by ac_rfl) (ya (ja (j9 (ja (qpv 1) (ja (qpv 2) (ja yk jc)))) jc)))
  (jg (jk (i:=8) yp.nd rfl (by ac_rfl) je)
  (jg (jal Od (jr ja4 (qpv 8) (jn j4 (by rfl) T.n_len ke (ja (qpv 7) jc)) (jz _)) (jg (jk (i:=9) yp.nd rfl (by ac_rfl) (ji ix_U (qpv 7) (qpv 8) (λ_ _=>rfl)))
  (jg (qps_aug (i:=8) yp.nd rfl (by ac_rfl) je jof)
  (ym (ki (jbb (jbc (jm G15z (hr.mono (by decide)) rfl T.m15z F15z.kp b15z .nil jy (ja (qpv 6) (ja (ji ix_U (qpv 9) je (λ_ _=>rfl)) (ja (ji ix_U (qpv 9) je (λ_ _=>rfl)) jc)))))) (jj qps_continue) j8)
  (jj (zb Od rfl (jau rfl T.n_enumerate (ja (qpv 3) jc)) (jaf (n:=2) rfl (ku (jv (i:=10) yp.nd rfl (by ac_rfl)) (ku (jv (i:=11) yp.nd rfl (by ac_rfl)) z0)) (K:=K) rfl) (jg (jk (i:=12) yp.nd rfl (by ac_rfl) (ji ix_U (ji ix_U (qpv 4) (ji ix_U (qpv 9) je (λ_ _=>rfl)) (λ_ _=>rfl)) (qpv 10) (λ_ _=>rfl)))
  (jg (jk (i:=13) yp.nd rfl (by ac_rfl) (ji ix_U (ji ix_U (qpv 4) (ji ix_U (qpv 9) je (λ_ _=>rfl)) (λ_ _=>rfl)) (qpv 10) (λ_ _=>rfl)))
  (ym (ki (jr (zw hu) (ji ix_U (qpv 5) (qpv 12) (λ_ _=>rfl)) (ji ix_U (qpv 5) (qpv 13) (λ_ _=>rfl)) (jz _)) (jj (jx (jo kh (ji ix_U (qpv 9) je (λ_ _=>rfl)) (qpv 11)))) j8)
  (jj (yi (yv Iu Iv yb (qpv 7) (ja (j9 (ja (qpv 12) (ja (qpv 13) (ja (jo kh (ji ix_U (qpv 9) je (λ_ _=>rfl)) (qpv 11)) jc)))) jc) jd3))))))))))))
  (jj (jx jba)))))))))) ?_
  simp! [ma.t0]
  obtain⟨J0,hJ0⟩:∃J0:L2.St->Hp->Prop,∀s H',J0 s H'↔(s=[some (.ref p),some (.int (one:Int)),some (.int (other:Int)),some (.str m.z),some (.ref a1),some (.ref a2),none,none,none,none,none,none,none,none]/\H=H'/\yy m one=yy m other):=⟨_,λ_ _=>O7⟩
  refine⟨J0,?_,λs H' hJ=>?_⟩
  ·simp! [ma.t2,je5 ok h1,je5 ok h2]
   refine ite2 (λhd=>?_) (λhd=>(hJ0 _ _).mpr ⟨rfl,rfl,by simpa using hd⟩)
   refine k (some []) H ⟨Ov.nil,by simpa[run]using hd,λw _ h=>?_⟩ (λw e=>by cases e;simp) (Kp.refl [] H)
   exact absurd h (Yd _)
  ·obtain⟨rfl,rfl,hd0⟩:=(hJ0 _ _).mp hJ
   clear hJ hJ0
   simp! [ma.t1]
   have nl:rs.length=m.mv.length:=ma.rl
   rw[nl]
   refine⟨by omega,by omega,λpr hpr=>⟨0,(m.mv.length:Int),jb,by omega,by omega,by omega,by omega,by omega,λha hha=>?_⟩⟩
   have eh:((List.range ((m.mv.length:Int)-0).toNat).map fun(i:Nat)=>V.int ((0:Int)+(i:Nat)))=(List.range m.mv.length).map iV:=by
    have:((m.mv.length:Int)-0).toNat=m.mv.length:=by omega
    rw[this]
    apply Om
    intro i _
    simp[iV]
   rw[eh]
   refine⟨by omega,λt0 ht0=>⟨by omega,λdu hdu=>?_⟩⟩
   have nhd:ha≠du:=jf (by rw[jd (jf jb ht0),jb]) hdu
   have kp0:Kp [] H (upd (upd (upd (upd H pr (.rng 0 (m.mv.length:Int))) ha (.lst ((List.range m.mv.length).map iV))) t0 (.tup [.int (one:Int),.int (other:Int),.str (Str.ofString "")])) du (.lst [.ref t0])):=((((Kp.refl [] H).new hpr).new hha).new ht0).new hdu
   have hha0:H ha=none:=((Kp.refl [] H).new hpr).free hha
   have hdu0:H du=none:=((((Kp.refl [] H).new hpr).new hha).new ht0).free hdu
   have ntd:t0≠du:=jf jb hdu
   unfold jhp
   let L:=m.z.length
   let n:=m.mv.length
   obtain⟨W0,hW0⟩:∃W0:Nat->L2.St->Hp->Prop,∀μ σ H',W0 μ σ H'↔(∃(Qs:List (List Nat))(kk:Nat)(hs:List Nat)(d:Nat->Nat)(rq:List V)(v9 v10 v11 v12 v13:Option V),σ=[some (.ref p),some (.int (one:Int)),some (.int (other:Int)),some (.str m.z),some (.ref a1),some (.ref a2),some (.ref ha),some (.ref du),some (.int (kk:Int)),v9,v10,v11,v12,v13] /\
     H' ha=some (.lst (hs.map iV))/\H' du=some (.lst rq)/\Reps H' rq (Qs.map (itD m one other))/\Kp [] H H'/\UF n hs d/\Snd (Sk m one other Qs kk) n hs/\Bfs (dl m) (yy m) one other L Qs kk/\kk<=Qs.length/\Qs.length+L*jd8 n hs<=1+L*n /\
     (∀(i:Nat)(u:List Nat),Qs[i]?=some u->u.length<=i)/\Par L Qs kk/\μ=jd8 n hs*(L+1)+(Qs.length-kk)):=⟨_,λ_ _ _=>O7⟩
   refine⟨W0,?_,?_⟩
   ·refine⟨_,(hW0 _ _ _).mpr ⟨[[]],0,List.range n,λ_=>0,[.ref t0],none,none,none,none,none,rfl,?_,jb,?_,kp0,jmy n,jl8 _ n,⟨by simp,?_,?_,?_,λi u h=>absurd h (Yd _)⟩,by simp,?_,?_,λv hv=>.inl (by simpa using hv),rfl⟩⟩
    ·rw[jd nhd,jd (jf jb ht0),jb]
    ·simp only[Ak,Au,Reps,Ii,itD,Rep]
     refine⟨t0,_,rfl,by rw[jd ntd,jb],?_⟩
     simp only[Reps,Rep,Ii]
     exact⟨rfl,rfl,rfl⟩
    ·intro u hu'
     simp at hu';subst hu';exact Ov.nil
    ·intro i j u v hij e1 e2
     have:=(Ab.mp e2).1
     simp at this;omega
    ·intro u hu'
     simp at hu';subst hu';exact hd0
    ·have:=Nat.mul_le_mul_left L (jje n (List.range n))
     simp only[List.length_cons,List.length_nil]
     omega
    ·intro i u e
     have h3:=(Ab.mp e).1
     simp at h3;subst h3;simp at e;subst e;simp
   ·intro μ σ H' hW
    obtain⟨Qs,kk,hs,d,rq,v9,v10,v11,v12,v13,rfl,e1,e2,hrq,kp,uf,sd,B,hkk,hcap,hlen,hpar,rfl⟩:=(hW0 _ _ _).mp hW
    clear hW
    have ma':=ma.kp kp
    have rql:rq.length=Qs.length:=by rw[Reps.len hrq,Aa]
    have rts:=jje n hs
    have capL:Qs.length<=4001:=by
     have h4:L*n<=4*1000:=Nat.mul_le_mul zh (Io nh hN)
     omega
    simp! [e2,rql]
    refine ite2 (λhlt=>?_) (λhge=>?_)
    ·have hlt':kk<Qs.length:=by omega
     obtain⟨u,hu'⟩:∃u,Qs[kk]?=some u:=⟨Qs[kk],by simp[hlt']⟩
     have uo:=B.ov u (Ay hu')
     have p1:run (dl m) one u<n:=jej ok h1 uo
     have p2:run (dl m) other u<n:=jej ok h2 uo
     obtain⟨vq,evq,rvq⟩:=je1 (i:=kk) (d:=itD m one other u) hrq (by rw[A9,hu'];rfl)
     simp only[itD,Rep]at rvq
     obtain⟨pq,vs3,rfl,hpq,hvs3⟩:=rvq
     have evs:vs3=[.int ((run (dl m) one u:Nat):Int),.int ((run (dl m) other u:Nat):Int),.str (txt m u)]:=by
      match vs3,Reps.len hvs3,hvs3 with
      |[x,y,q],_,h=>simp only[Reps,Rep,Ii]at h;obtain⟨q1,q2,q3⟩:=h;rw[q1,q2,q3]
     subst evs
     refine⟨_,λσ' H' q=>q,?_⟩
     have atq:atI rq ((kk:Nat):Int)=some (.ref pq):=jdv evq
     simp! [e2,atq]
     refine⟨_,?_,λ_ _ h=>h⟩
     simp! [hpq]
     refine⟨ha,run (dl m) one u,run (dl m) other u,n,hs,d,rfl,e1,uf,p1,p2,λb h' d' uf' rt rf cf sf=>?_⟩
     have e2':∀o,upd H' ha o du=some (.lst rq):=λo=>by rw[jd nhd.symm];exact e2
     have kph:Kp [] H (upd H' ha (.lst (h'.map iV))):=kp.set e1 (.inr hha0)
     have kph':Kp [ha] H' (upd H' ha (.lst (h'.map iV))):=(Kp.refl [ha] H').set e1 (.inl (.head _))
     have skm:∀a b,Sk m one other Qs kk a b->Sk m one other Qs (kk+1) a b:=λa b ⟨i,t,hi,r⟩=>⟨i,t,by omega,r⟩
     have sd':Snd (Sk m one other Qs (kk+1)) n h':=sf _ ⟨kk,u,by omega,hu',rfl,rfl⟩ (sd.mono skm)
     cases b with
     |false =>
      simp!
      have c0:=cf rfl _ sd
      have r0:=rf rfl
      refine⟨_,?_,(hW0 _ _ _).mpr ⟨Qs,kk+1,h',d',rq,_,_,_,_,_,rfl,jb,e2' _,Reps.kp kph' (jft m one other Qs) hrq,kph,uf',sd',⟨B.q0,B.ov,B.inc,B.eqv,λi t hi ht=>?_⟩,by omega,by rw[r0];exact hcap,hlen,λv hv=>(hpar v hv).imp_right fun⟨i,t,b,hi,r⟩=>⟨i,t,b,by omega,r⟩,rfl⟩⟩
      ·rw[r0];omega
      ·by_cases hik:i<kk
       ·exact B.step i t hik ht
       ·have:i=kk:=by omega
        subst this
        rw[hu']at ht;cases ht
        refine .inr (c0.mono λa b ⟨j,t,hj,et,ea,eb⟩=>⟨t,Ay et,B.inc j i t u hj et hu',ea,eb⟩)
     |true =>
      have r1:=rt rfl
      simp!
      obtain⟨W1,hW1⟩:∃W1:Nat->L2.St->Hp->Prop,∀j σ H2,W1 j σ H2↔(∃(rq':List V)(v10 v11 v12 v13:Option V),σ=[some (.ref p),some (.int (one:Int)),some (.int (other:Int)),some (.str m.z),some (.ref a1),some (.ref a2),some (.ref ha),some (.ref du),some (.int ((kk:Int)+1)),some (.ref pq),v10,v11,v12,v13] /\
       H2 ha=some (.lst (h'.map iV))/\H2 du=some (.lst rq')/\Reps H2 rq' ((Qs++(List.range j).map (λa=>u++[a])).map (itD m one other))/\Kp [] H H2/\Kp [ha,du] H' H2/\∀a,a<j->yy m (run (dl m) one (u++[a]))=yy m (run (dl m) other (u++[a]))):=⟨_,λ_ _ _=>O7⟩
      refine jlu W1 ?_ ?_ ?_
      ·refine(hW1 _ _ _).mpr ⟨rq,v10,v11,v12,v13,rfl,jb,e2' _,?_,kph,kph'.mono (by simp),λa h=>absurd h (Yd _)⟩
       simp only[List.range_zero,Au,Aq]
       exact Reps.kp kph' (jft m one other Qs) hrq
      ·intro j σ H2 Tt hj hW hTt
       obtain⟨rq',w10,w11,w12,w13,rfl,f1,f2,hrq',kp2,kk2,hy⟩:=(hW1 _ _ _).mp hW
       clear hW
       refine⟨Tt,jfh m.z j,rfl,SqT.of jb,rfl,?_⟩
       have kT:Kp [] H2 (upd H2 Tt (.tup (jfh m.z j))):=(Kp.refl [] H2).new hTt
       have kA:=kp2.trans kT
       have ma3:=ma.kp kA
       have hpq3:=(kk2.trans (kT.mono (by simp))).tup _ _ hpq
       have f1':=kT.old _ _ f1 Aj
       have f2':=kT.old _ _ f2 Aj
       generalize hH3:upd H2 Tt (.tup (jfh m.z j))=H3 at kT kA ma3 hpq3 f1' f2'
       obtain⟨r1',er1,hr1'⟩:=ma3.rw _ p1
       obtain⟨r2',er2,hr2'⟩:=ma3.rw _ p2
       have q1:=(ok.cell p1 hj).2.2
       have q2:=(ok.cell p2 hj).2.2
       have rl':rq'.length=Qs.length+j:=by rw[Reps.len hrq'];simp
       refine⟨_,_,rfl,⟨_,_,rfl,rfl,?_⟩⟩
       simp! [ma3.t1,hpq3,jdv er1,jdv er2,hr1',hr2',jg3 ok p1 hj,jg3 ok p2 hj]
       obtain⟨J1,hJ1⟩:∃J1:L2.St->Hp->Prop,∀s H',J1 s H'↔(s=[some (.ref p),some (.int (one:Int)),some (.int (other:Int)),some (.str m.z),some (.ref a1),some (.ref a2),some (.ref ha),some (.ref du),some (.int ((kk:Int)+1)),some (.ref pq),some (.int (j:Int)),some (.str ⟨#[m.z.cps.toList.getD j 0]⟩),some (.int ((dl m (run (dl m) one u) j:Nat):Int)),some (.int ((dl m (run (dl m) other u) j:Nat):Int))]/\H3=H'/\yy m (dl m (run (dl m) one u) j)=yy m (dl m (run (dl m) other u) j)):=⟨_,λ_ _=>O7⟩
       have ul:u.length<=4001:=Io (hlen kk u hu') (by omega)
       have sl:(txt m u).length+(⟨#[m.z.cps.toList.getD j 0]⟩:Str).length<=sizeLine:=by
        rw[jhz]
        show u.length+1<=sizeLine
        omega
       have s1:run (dl m) one (u++[j])=dl m (run (dl m) one u) j:=jjf m one u j
       have s2:run (dl m) other (u++[j])=dl m (run (dl m) other u) j:=jjf m other u j
       refine⟨J1,?_,λs H' hJ=>?_⟩
       ·simp! [ma3.t2,hpq3,je5 ok q1,je5 ok q2]
        refine ite2 (λhne=>?_) (λheq=>(hJ1 _ _).mpr ⟨rfl,rfl,by simpa using heq⟩)
        refine⟨sl,?_⟩
        rw[jgw]
        refine k (some (u++[j])) H3 ⟨uo.app (Ov.one hj),?_,B.first zl hu' hj hy⟩ (λw e=>by cases e;simp;omega) kA
        rw[s1,s2]
        simpa using hne
       ·obtain⟨rfl,rfl,heq'⟩:=(hJ1 _ _).mp hJ
        clear hJ hJ1
        simp! [hpq3,f2']
        refine⟨sl,by omega,λt1 ht1=>?_⟩
        have f2'':upd H3 t1 (.tup [.int ((dl m (run (dl m) one u) j:Nat):Int),.int ((dl m (run (dl m) other u) j:Nat):Int),.str (txt m u++⟨#[m.z.cps.toList.getD j 0]⟩)]) du=some (.lst rq'):=by rw[jd (jf f2' ht1)];exact f2'
        have kB:Kp [du] H3 (upd (upd H3 t1 (.tup [.int ((dl m (run (dl m) one u) j:Nat):Int),.int ((dl m (run (dl m) other u) j:Nat):Int),.str (txt m u++⟨#[m.z.cps.toList.getD j 0]⟩)])) du (.lst (rq'++[.ref t1]))):=((Kp.refl [du] H3).new ht1).set f2'' (.inl (.head _))
        have ndt:t1≠du:=(jf f2' ht1).symm
        refine⟨rq',by rw[f2''];rfl,by omega,(hW1 _ _ _).mpr ⟨_,_,_,_,_,rfl,by rw[jd nhd,jd (jf f1' ht1)];exact f1',jb,?_,(kA.new ht1).set f2'' (.inr hdu0),(kk2.trans (kT.mono (by simp))).trans (kB.mono (by simp)),λa ha'=>?_⟩⟩
        ·have er:(Qs++(List.range (j+1)).map (λa=>u++[a])).map (itD m one other)=(Qs++(List.range j).map (λa=>u++[a])).map (itD m one other)++[itD m one other (u++[j])]:=by
          rw[Wj]
          simp only[I0,Ak,Au,A8]
         rw[er]
         refine Reps.app (Reps.kp ((kT.mono (S':=[du]) (by simp)).trans kB) (jft m one other _) hrq') ?_
         simp only[Reps,Ii,itD,Rep]
         refine⟨t1,_,rfl,by rw[jd ndt,jb],?_⟩
         simp only[Reps,Rep,Ii]
         rw[s1,s2,jgw]
         exact⟨rfl,rfl,rfl⟩
        ·by_cases ea:a<j
         ·exact hy a ea
         ·have:a=j:=by omega
          subst this
          rw[s1,s2];exact heq'
      ·intro σ H2 hW
       obtain⟨rq',w10,w11,w12,w13,rfl,f1,f2,hrq',kp2,kk2,hy⟩:=(hW1 _ _ _).mp hW
       clear hW
       have ck:((kk:Int)+1)=((kk+1:Nat):Int):=by omega
       rw[ck]
       have memC:∀v,v∈Qs++(List.range m.z.length).map (λa=>u++[a])->v∈Qs\/∃a,a<m.z.length/\v=u++[a]:=λv hv=>by
        rcases A0.mp hv with h|h
        ·exact .inl h
        ·obtain⟨a,ha',e⟩:=Ij.mp h
         exact .inr ⟨a,Ow.mp ha',e.symm⟩
       have up:∀v,v∈Qs->v∈Qs++(List.range m.z.length).map (λa=>u++[a]):=λv hv=>Im _ hv
       have upg:∀(i:Nat)(t:List Nat),Qs[i]?=some t->(Qs++(List.range m.z.length).map (λa=>u++[a]))[i]?=some t:=λi t h=>by
        rw[A1 (Ab.mp h).1];exact h
       have low:∀v,v∈Qs->∀a,a<m.z.length->cd m.z.length v<cd m.z.length (u++[a]):=λv hv a ha'=>by
        rcases hpar v hv with rfl|⟨i,t,b,hi,ht,rfl,hb⟩
        ·rw[jdy,jg5];omega
        ·exact jfo hb (B.inc i kk t u hi ht hu')
       have r2:jd8 n hs=jd8 n h'+1:=r1.symm
       have getC:∀(i:Nat)(v:List Nat),(Qs++(List.range m.z.length).map (λa=>u++[a]))[i]?=some v->Qs[i]?=some v\/(Qs.length<=i/\i-Qs.length<m.z.length/\v=u++[i-Qs.length]):=λi v h=>by
        by_cases hi:i<Qs.length
        ·rw[A1 hi]at h;exact .inl h
        ·rw[Ib (by omega),A9]at h
         cases q:(List.range m.z.length)[i-Qs.length]? with
         |none=>rw[q]at h;cases h
         |some a =>
          rw[q]at h
          obtain⟨q1,q2⟩:=Ab.mp q
          simp at q1 q2
          subst q2
          exact .inr ⟨by omega,q1,(A7 h).symm⟩
       refine⟨_,?_,(hW0 _ _ _).mpr ⟨Qs++(List.range m.z.length).map (λa=>u++[a]),kk+1,h',d',rq',_,_,_,_,_,rfl,f1,f2,hrq',kp2,uf',sd'.mono (λa b ⟨i,t,hi,ht,r⟩=>⟨i,t,hi,upg i t ht,r⟩),
        ⟨up _ B.q0,λv hv=>?_,λi j v w hij e1' e2'=>?_,λv hv=>?_,λi t hi ht=>?_⟩,?_,?_,λi v h=>?_,λv hv=>?_,rfl⟩⟩
       ·rw[r2,Ya,Ae,Aa,Of]
        show jd8 n h'*(m.z.length+1)+(Qs.length+m.z.length-(kk+1))<jd8 n h'*(m.z.length+1)+(m.z.length+1)+(Qs.length-kk)
        omega
       ·rcases memC v hv with h|⟨a,ha',rfl⟩
        ·exact B.ov v h
        ·exact uo.app (Ov.one ha')
       ·rcases getC i v e1' with g1|⟨g1,g2,rfl⟩
        ·rcases getC j w e2' with g3|⟨g3,g4,rfl⟩
         ·exact B.inc i j v w hij g1 g3
         ·exact low v (Ay g1) _ g4
        ·rcases getC j w e2' with g3|⟨g3,g4,rfl⟩
         ·have:=(Ab.mp g3).1
          omega
         ·rw[jdy,jdy];omega
       ·rcases memC v hv with h|⟨a,ha',rfl⟩
        ·exact B.eqv v h
        ·exact hy a ha'
       ·have upA:∀v a b,jgy (dl m) one other m.z.length Qs v a b->jgy (dl m) one other m.z.length (Qs++(List.range m.z.length).map (λa=>u++[a])) v a b:=λv a b ⟨t,ht,r⟩=>⟨t,up t ht,r⟩
        by_cases hik:i<kk
        ·rcases getC i t ht with g|⟨g1,g2,g3⟩
         ·rcases B.step i t hik g with h|h
          ·exact .inl λa ha'=>(h a ha').imp (up _) (Cl.mono (upA _))
          ·exact .inr (h.mono (upA _))
         ·omega
        ·have:i=kk:=by omega
         subst this
         rcases getC i t ht with g|⟨g1,g2,g3⟩
         ·rw[hu']at g;cases g
          exact .inl λa ha'=>.inl (A2 _ (Ij.mpr ⟨a,Ow.mpr ha',rfl⟩))
         ·omega
       ·rw[Ae,Aa,Of];omega
       ·rw[Ae,Aa,Of]
        rw[r2,Nat.mul_add]at hcap
        show Qs.length+m.z.length+m.z.length*jd8 n h'<=1+m.z.length*n
        have hc':Qs.length+(m.z.length*jd8 n h'+m.z.length*1)<=1+m.z.length*n:=hcap
        omega
       ·rcases getC i v h with g|⟨g1,g2,rfl⟩
        ·exact hlen i v g
        ·have:=hlen kk u hu'
         simp
         omega
       ·rcases memC v hv with h|⟨a,ha',rfl⟩
        ·exact(hpar v h).imp_right fun⟨i,t,b,hi,ht,r⟩=>⟨i,t,b,by omega,upg i t ht,r⟩
        ·exact .inr ⟨kk,u,a,by omega,upg kk u hu',rfl,ha'⟩
    ·have ek:kk=Qs.length:=by omega
     subst ek
     refine k Option.none H' (B.none zl) (λw e=>nomatch e) kp
end
local macro_rules
 | `(tactic| simp!)=>`(tactic| simp only [tSeq,tIfS,jdl,tOp,tVar,tC,tAsg,jc4,gSub,tRet,jdi,jdf,jdg,tAnd,tOr,tNot,jda,jdj,tB,jdd,rI0,rI,jb2,jb4,jb9,jca,jcn,jco,jcm,jcg,jb7,jb6,jb8,jb5,jck,jb1,jb0,jcb,jby,jci,jcz,jcj,jch,jcp,jc1,jcr,jcq,jcc,jcy,jb3,jcf,jcd,jce,Option.isSome_some,tBML,tCB,jde,tNil,tLst,tTup,jdn,tSl,jdk,jcw,jcs,iAny,jdb,jc5,jc7,jcv,jdc,tAug,ipI,jc2,jc9,jcu,jcx,jdh,jc8,hdl,jc0,jcl,tBM,jc3,Option.bind_some,Option.bind_none,Option.getD_some,L2.start,Ak,Au,List.length_cons,List.length_nil,List.cons_append,List.nil_append,Aq,At,List.replicate,List.getElem?_cons_zero,List.getElem?_cons_succ,List.set_cons_zero,List.set_cons_succ,Nat.reduceSub,Nat.reduceAdd,Nat.reduceLeDiff,Ap,V.int.injEq,V.bl.injEq,V.str.injEq,V.ref.injEq,HO.lst.injEq,HO.tup.injEq,Aw,A3,Ax,Is,Ii,jb,jct,jdm,jdp,jdq,A4,Az,Ao,Af,Ih,Ik,reduceIte,reduceCtorEq,jc6,tLam,jbz])
 | `(tactic| simp! [$ls,*])=>`(tactic| simp only [tSeq,tIfS,jdl,tOp,tVar,tC,tAsg,jc4,gSub,tRet,jdi,jdf,jdg,tAnd,tOr,tNot,jda,jdj,tB,jdd,rI0,rI,jb2,jb4,jb9,jca,jcn,jco,jcm,jcg,jb7,jb6,jb8,jb5,jck,jb1,jb0,jcb,jby,jci,jcz,jcj,jch,jcp,jc1,jcr,jcq,jcc,jcy,jb3,jcf,jcd,jce,Option.isSome_some,tBML,tCB,jde,tNil,tLst,tTup,jdn,tSl,jdk,jcw,jcs,iAny,jdb,jc5,jc7,jcv,jdc,tAug,ipI,jc2,jc9,jcu,jcx,jdh,jc8,hdl,jc0,jcl,tBM,jc3,Option.bind_some,Option.bind_none,Option.getD_some,L2.start,Ak,Au,List.length_cons,List.length_nil,List.cons_append,List.nil_append,Aq,At,List.replicate,List.getElem?_cons_zero,List.getElem?_cons_succ,List.set_cons_zero,List.set_cons_succ,Nat.reduceSub,Nat.reduceAdd,Nat.reduceLeDiff,Ap,V.int.injEq,V.bl.injEq,V.str.injEq,V.ref.injEq,HO.lst.injEq,HO.tup.injEq,Aw,A3,Ax,Is,Ii,jb,jct,jdm,jdp,jdq,A4,Az,Ao,Af,Ih,Ik,reduceIte,reduceCtorEq,jc6,tLam,jbz,$ls,*])
def spLS(cO:Addr):Sp:=λvs H Q E=>∃(p q:Addr)(z z':Str)(x1 x2 y1 y2:V),vs=[.ref p,.ref q]/\H p=some (.tup [.str z,x1,x2])/\H q=some (.tup [.str z',y1,y2])/\(z=z'->Q .non H)/\(z≠z'->∀H',Kp [] H H'->E (.ref cO) none H')
theorem jnr{H:Hp}{e:Addr}{o:HO}(he:H e=none):Kp [] H (je3 (upd H e o) e):=by
 have go:∀a u,H a=some u->je3 (upd H e o) e a=some u:=λa u h=>by
  have n1:=jf h he
  rw[jew n1,jd n1];exact h
 exact⟨λa u h _=>go a u h,λa xs h=>go a _ h,λa u h=>⟨u,go a u h⟩⟩
structure TLs(K:PySem.W.Frag)(mg:Str->Option Value)(cO N D:Addr):Prop where
 m_OtherLetters:mg "OtherLetters"=some (.ref cO)
 c_OtherLetters:XC K cO D N
 i_OtherLetters:PySem.W.nsIn K N "__init__"=some none
def jdu(m m':Mach):Mach:=⟨m.z,m.mv++m'.mv.map (λr=>r.map λt=>(m.mv.length:Int)+t),m.ye++m'.ye⟩
def adV(n:Nat):V->V
 |.int t=>.int ((n:Int)+t)
 |v=>v
def spSd:Sp:=λvs H Q _=>∃(p q a1 a2 b1 b2:Addr)(m m':Mach)(rs ss:List V),vs=[.ref p,.ref q]/\MA H m p a1 a2 rs/\MA H m' q b1 b2 ss/\m.mv.length<=1000/\m'.mv.length<=1000/\(∀r∈m'.mv,r.length<=1000)/\m.ye.length<=1000/\m'.ye.length<=1000 /\
 ∀r c1 c2 us H',MS H' (jdu m m') r c1 c2 us->Kp [] H H'->Q (.ref r) H'
structure TSd(mg:Str->Option Value):Prop where
 n_len:mg "len"=none
 n_list:mg "list"=none
 n_tuple:mg "tuple"=none
section
variable{P:Program}{w:World}{K:PySem.W.Frag}{mg:Str->Option Value}{base:Heap}
abbrev kc:Stmt:=top 16
theorem sc_look_same_letters:FnScope ["one","other"] ["one","other"] (jh kc):=⟨rfl,rfl,rfl,by decide +kernel,rfl,by decide +kernel,by decide +kernel⟩
theorem ok_look_same_letters{f cO N D:Addr}{fd:FuncData}(F:Fun K "look_same_letters" "look_same_letters" kc f fd)(T:TLs K mg cO N D):FnOk P w K mg base (CXE P w) 1 f fd ["one","other"] (spLS cO):=by
 refine F.okE sc_look_same_letters (λvs H Q E h=>?_) (λcdv A outer s H vs Q E hr h=>?_)
 ·obtain⟨p,q,z,z',x1,x2,y1,y2,rfl,_⟩:=h
  rfl
 ·obtain⟨p,q,z,z',x1,x2,y1,y2,rfl,hp,hq,k,kE⟩:=h
  have hu:=hr.units
  refine exQ (jj (ki (jr (zw hu) (ji ix_U (qpv 0) je (λ_ _=>rfl)) (ji ix_U (qpv 1) je (λ_ _=>rfl)) (jz _)) (jj (qps_raise rfl rfl rfl leaves_of (qpe_exc0 rfl T.c_OtherLetters T.i_OtherLetters rfl T.m_OtherLetters))) j8)) ?_
  simp! [hp,hq]
  by_cases e:z=z'
  ·rw[Ah (by simp[e])]
   exact k e
  ·rw[Am (by simp[e])]
   intro b hb
   exact⟨cO,D,N,none,rfl,T.c_OtherLetters,hb,kE e _ (jnr hb)⟩
abbrev yd:Stmt:=top 17
theorem zf:FnScope ["one","other","many","moves","row"] ["one","other"] (jh yd):=⟨rfl,rfl,rfl,by decide +kernel,rfl,by decide +kernel,by decide +kernel⟩
theorem ok_side_by_side{f:Addr}{fd:FuncData}(F:Fun K "side_by_side" "side_by_side" yd f fd)(T:TSd mg):FnOk P w K mg base CX0 1 f fd ["one","other"] spSd:=by
 refine F.ok zf (λvs H Q E h=>?_) (λcdv A outer s H vs Q E hr h=>?_)
 ·obtain⟨p,q,a1,a2,b1,b2,m,m',rs,ss,rfl,_⟩:=h
  rfl
 ·obtain⟨p,q,a1,a2,b1,b2,m,m',rs,ss,rfl,ma,mb,l1,l2,l3,l4,l5,k⟩:=h
  have hu:=hr.units
  have hsz:sizeLine=16777216:=Iw
  refine exQ (jg (jk (i:=2) zf.nd rfl (by ac_rfl) (jn j4 (by rfl) T.n_len ke (ja (ji ix_U (qpv 0) je (λ_ _=>rfl)) jc)))
  (jg (jk (i:=3) zf.nd rfl (by ac_rfl) (ju (zr rfl) (by rfl) T.n_list zn (ja (ji ix_U (qpv 0) je (λ_ _=>rfl)) jc)))
  (jg (zb Od rfl (z5 (K:=K) (ji ix_U (qpv 1) je (λ_ _=>rfl)) rfl) (jv (i:=4) zf.nd rfl (by ac_rfl)) (jj (yi (yv Iu Iv yb (qpv 3) (ja (ju yg (by rfl) T.n_tuple y8 (ja (jah rfl (jel (sc:=jh yd) (N:=["one","other","many","moves","row"]) (Nc:=["target","many"]) (js:=[none,some 2]) (by decide +kernel)) (z5 (K:=K) (qpv 4) rfl) (λ_ _ _ _=>(jv (i:=0) (show List.Nodup [("target":Str),("many":Str)]from by decide +kernel) rfl (by ac_rfl))) (λ_ _ _ _=>(jo kh (qpv 1) (qpv 0)))) jc)) jc) jd3))))
  (jj (jx (j9 (ja (ji ix_U (qpv 0) je (λ_ _=>rfl)) (ja (qpv 3) (ja (jo kh (ju (zr rfl) (by rfl) T.n_list zn (ja (ji ix_U (qpv 0) je (λ_ _=>rfl)) jc)) (ju (zr rfl) (by rfl) T.n_list zn (ja (ji ix_U (qpv 1) je (λ_ _=>rfl)) jc))) jc))))))))) ?_
  simp! [ma.t0,ma.t1,ma.t2,mb.t0,mb.t1,mb.t2]
  intro l hl
  have k1:Kp [] H (upd H l (.lst rs)):=(Kp.refl [] H).new hl
  have el:upd H l (.lst rs) l=some (.lst rs):=jb
  generalize upd H l (.lst rs)=H1 at k1 el⊢
  have ma1:=ma.kp k1
  have mb1:=mb.kp k1
  refine⟨_,by rw[mb1.t0];rfl,_,rfl,?_⟩
  simp only[mb1.t1]
  have rl:=ma.rl
  have sl:=mb.rl
  refine jgm (xs:=ss) (λi σ H'=>∃(v:Option V)(us:List V),σ=[some (.ref p),some (.ref q),some (.int (rs.length:Int)),some (.ref l),v]/\H' l=some (.lst (rs++us))/\us.length=i/\(∀j u,us[j]?=some u->∃r,u=.ref r/\H' r=some (.tup (((m'.mv.getD j []).map λt=>(m.mv.length:Int)+t).map V.int)))/\Kp [] H H') ?_ ?_ ?_ ?_
  ·exact⟨none,[],rfl,by simpa using el,rfl,by simp,k1⟩
  ·rintro i σ H' _ ⟨_,_,rfl,_,_,_,k2⟩
   exact(mb.kp k2).t1
  ·rintro i x σ H2 hx ⟨v,us,rfl,el2,ul,hus,k2⟩
   have hi:i<m'.mv.length:=by have:=(Ab.mp hx).1;omega
   obtain⟨r,er,hr2⟩:=(mb.kp k2).rw i hi
   rw[hx]at er
   cases er
   simp! [hr2]
   refine⟨by rw[el2];rfl,λD hD=>?_⟩
   refine jmj (adV m.mv.length) hr2 hD (by have:=l3 _ (jex m'.mv i [] hi);rw[Aa];omega) (λu hu' l' Q' q'=>?_) λv'=>?_
   ·obtain⟨t,_,rfl⟩:=Ij.mp hu'
    simp!
    rw[rl]
    exact q'
   have k3:Kp [] H2 (upd H2 D (.lst (((m'.mv.getD i []).map V.int).map (adV m.mv.length)))):=(Kp.refl [] H2).new hD
   have eD:upd H2 D (.lst (((m'.mv.getD i []).map V.int).map (adV m.mv.length))) D=some (.lst (((m'.mv.getD i []).map λt=>(m.mv.length:Int)+t).map V.int)):=by
    rw[jb];congr 2;simp[adV,Function.comp_def]
   generalize upd H2 D (.lst (((m'.mv.getD i []).map V.int).map (adV m.mv.length)))=H3 at k3 eD⊢
   dsimp only
   refine jd1 eD λb hb=>?_
   have el3:=k3.old _ _ el2 Aj
   have nlb:l≠b:=jf el3 hb
   have el4:upd H3 b (.tup (((m'.mv.getD i []).map λt=>(m.mv.length:Int)+t).map V.int)) l=some (.lst (rs++us)):=by rw[jd nlb];exact el3
   have k5:Kp [l] H2 (upd (upd H3 b (.tup (((m'.mv.getD i []).map λt=>(m.mv.length:Int)+t).map V.int))) l (.lst ((rs++us)++[.ref b]))):=((k3.mono (by simp)).new hb).set el4 (.inl (.head _))
   refine⟨rs++us,by rw[el4];rfl,by simp;omega,us++[.ref b],by rw[A8],by simp[ul],λj u hj=>?_,((k2.trans k3).new hb).set el4 (.inr hl)⟩
   by_cases c:j<i
   ·rw[A1 (by omega)]at hj
    obtain⟨r',e,h⟩:=hus j u hj
    exact⟨r',e,k5.tup _ _ h⟩
   ·have hj':=(Ab.mp hj).1
    rw[Ae,List.length_singleton]at hj'
    obtain rfl:j=i:=by omega
    rw[Ib (by omega),ul,Nat.sub_self]at hj
    exact⟨b,by simpa using hj.symm,by rw[jd nlb.symm,jb]⟩
  ·rintro σ H2 ⟨v,us,rfl,el2,ul,hus,k2⟩
   have ma2:=ma.kp k2
   have mb2:=mb.kp k2
   simp! [ma2.t0,ma2.t2,mb2.t0,mb2.t2]
   intro l2 hl2
   have k3:Kp [] H2 (upd H2 l2 (.lst (m.ye.map V.bl))):=(Kp.refl [] H2).new hl2
   have e3:upd H2 l2 (.lst (m.ye.map V.bl)) l2=some (.lst (m.ye.map V.bl)):=jb
   generalize upd H2 l2 (.lst (m.ye.map V.bl))=H3 at k3 e3⊢
   have mb3:=mb2.kp k3
   refine⟨_,by rw[mb3.t0];rfl,_,rfl,?_⟩
   simp! [mb3.t2]
   intro l3' hl3
   have k4:Kp [] H3 (upd H3 l3' (.lst (m'.ye.map V.bl))):=(Kp.refl [] H3).new hl3
   have e4:upd H3 l3' (.lst (m'.ye.map V.bl)) l3'=some (.lst (m'.ye.map V.bl)):=jb
   generalize upd H3 l3' (.lst (m'.ye.map V.bl))=H4 at k4 e4⊢
   have e34:=k4.old _ _ e3 Aj
   simp! [e34,e4]
   refine⟨by omega,λc hc=>⟨by omega,λr hr'=>?_⟩⟩
   have k6:Kp [] H2 (upd (upd H4 c (.lst (m.ye.map V.bl++m'.ye.map V.bl))) r (.tup [.str m.z,.ref l,.ref c])):=((k3.trans k4).new hc).new hr'
   have ncr:c≠r:=jf jb hr'
   refine k r l c (rs++us) _ ⟨jb,by rw[k6.old _ _ el2 Aj];rfl,?_,?_,λi hi=>?_⟩ (k2.trans k6)
   ·rw[jd ncr,jb]
    show some _=some ((m.ye++m'.ye).map V.bl)
    rw[I0]
   ·show _=(m.mv++m'.mv.map _).length
    rw[Ae,Ae,Aa]
    omega
   ·show ∃r',(rs++us)[i]?=some (.ref r')/\_=some (HO.tup (((m.mv++m'.mv.map (λr=>r.map λt=>(m.mv.length:Int)+t)).getD i []).map V.int))
    have hi:i<(m.mv++m'.mv.map (λr=>r.map λt=>(m.mv.length:Int)+t)).length:=hi
    rw[Ae,Aa]at hi
    by_cases ci:i<m.mv.length
    ·obtain⟨r',e,h⟩:=ma2.rw i ci
     refine⟨r',by rw[A1 (by omega)];exact e,?_⟩
     rw[Ag,A1 ci,<-Ag]
     exact k6.tup _ _ h
    ·have hu':i-rs.length<us.length:=by omega
     obtain⟨r',e,h⟩:=hus (i-rs.length) _ (Ic hu')
     refine⟨r',by rw[Ib (by omega),Ic hu',e],?_⟩
     rw[Ag,Ib (by omega),A9,<-rl]
     have hm:i-rs.length<m'.mv.length:=by omega
     rw[Ic hm]
     rw[Ag,Ic hm,<-rl]at h
     exact k6.tup _ _ h
end
local macro_rules
 | `(tactic| simp!)=>`(tactic| simp only [tSeq,tIfS,jdl,tOp,tVar,tC,tAsg,jc4,gSub,tRet,jdi,jdf,jdg,tAnd,tOr,tNot,jda,jdj,tB,jdd,rI0,rI,jb2,jb4,jb9,jca,jcn,jco,jcm,jcg,jb7,jb6,jb8,jb5,jck,jb1,jb0,jcb,jby,jci,jcz,jcj,jch,jcp,jc1,jcr,jcq,jcc,jcy,jb3,jcf,jcd,jce,Option.isSome_some,tBML,tCB,jde,tNil,tLst,tTup,jdn,tSl,jdk,jcw,jcs,iAny,jdb,jc5,jc7,jcv,jdc,tAug,ipI,jc2,jc9,jcu,jcx,jdh,jc8,hdl,jc0,jcl,tBM,jc3,Option.bind_some,Option.bind_none,Option.getD_some,L2.start,Ak,Au,List.length_cons,List.length_nil,List.cons_append,List.nil_append,Aq,At,List.replicate,List.getElem?_cons_zero,List.getElem?_cons_succ,List.set_cons_zero,List.set_cons_succ,Nat.reduceSub,Nat.reduceAdd,Nat.reduceLeDiff,Ap,V.int.injEq,V.bl.injEq,V.str.injEq,V.ref.injEq,HO.lst.injEq,HO.tup.injEq,Aw,A3,Ax,Is,Ii,jb,jct,jdm,jdp,jdq,A4,Az,Ao,Af,Ih,Ik,reduceIte,reduceCtorEq,jc6,tLam,jbz,jdx,jbz,jdr])
 | `(tactic| simp! [$ls,*])=>`(tactic| simp only [tSeq,tIfS,jdl,tOp,tVar,tC,tAsg,jc4,gSub,tRet,jdi,jdf,jdg,tAnd,tOr,tNot,jda,jdj,tB,jdd,rI0,rI,jb2,jb4,jb9,jca,jcn,jco,jcm,jcg,jb7,jb6,jb8,jb5,jck,jb1,jb0,jcb,jby,jci,jcz,jcj,jch,jcp,jc1,jcr,jcq,jcc,jcy,jb3,jcf,jcd,jce,Option.isSome_some,tBML,tCB,jde,tNil,tLst,tTup,jdn,tSl,jdk,jcw,jcs,iAny,jdb,jc5,jc7,jcv,jdc,tAug,ipI,jc2,jc9,jcu,jcx,jdh,jc8,hdl,jc0,jcl,tBM,jc3,Option.bind_some,Option.bind_none,Option.getD_some,L2.start,Ak,Au,List.length_cons,List.length_nil,List.cons_append,List.nil_append,Aq,At,List.replicate,List.getElem?_cons_zero,List.getElem?_cons_succ,List.set_cons_zero,List.set_cons_succ,Nat.reduceSub,Nat.reduceAdd,Nat.reduceLeDiff,Ap,V.int.injEq,V.bl.injEq,V.str.injEq,V.ref.injEq,HO.lst.injEq,HO.tup.injEq,Aw,A3,Ax,Is,Ii,jb,jct,jdm,jdp,jdq,A4,Az,Ao,Af,Ih,Ik,reduceIte,reduceCtorEq,jc6,tLam,jbz,jdx,jbz,jdr,$ls,*])
def kN(x:Nat):L2.Key:=.inl (x:Int)
theorem ji7(l:List Nat):(l.map kN).map kV=l.map nV:=by rw[Oq];rfl
theorem jog{l k:List Nat}(h:l.map kN=k.map kN):l=k:=by
 refine(List.map_inj_right λx y e=>?_).mp h
 have:(x:Int)=y:=Sum.inl.inj e
 omega
theorem jfl{S:List Addr}{H H1:Hp}(k:Kp S H H1){b:Addr}{kvs:List (List L2.Key×V)}{o:HO}(hb:H1 b=some (.dT kvs))(h:b∈S\/H b=none):Kp S H (upd H1 b o):=by
 have ne:∀c u,H c=some u->c∉S->c≠b:=λc u e n z=>by
  subst z
  rcases h with h|h
  ·exact n h
  ·rw[h]at e;cases e
 refine⟨λc u e n=>by rw[jd (ne c u e n)];exact k.old c u e n,λc ys e=>?_,λc u e=>?_⟩
 ·have e1:=k.tup c ys e
  have:c≠b:=λz=>by rw[z,hb]at e1;cases e1
  rw[jd this];exact e1
 ·obtain⟨o',e'⟩:=k.dom c u e
  by_cases q:c=b
  ·subst q;exact⟨o,jb⟩
  ·exact⟨o',by rw[jd q];exact e'⟩
structure NmT(dec:Nat->List Nat)(n:Nat)(rs:List Nat)(kvs:List (List L2.Key×V)):Prop where
 num:∀x,x<n->valV kvs ((dec x).map kN)=if x∈rs then some (nV (rs.idxOf x))else none
 kl:kvs.length<=rs.length
theorem NmT.new{dec:Nat->List Nat}{n:Nat}{rs:List Nat}{kvs:List (List L2.Key×V)}(h:NmT dec n rs kvs)(inj:∀x y,x<n->y<n->dec x=dec y->x=y){y:Nat}(yn:y<n)(m:y∉rs):NmT dec n (rs++[y]) (putK kvs ((dec y).map kN) (nV rs.length)):=by
 refine⟨λx xn=>?_,?_⟩
 ·rw[jgx,h.num x xn]
  by_cases c:x=y
  ·subst c
   rw[Am rfl,Am (by simp),List.idxOf_append,Ah m]
   simp
  ·rw[Ah (λz=>c (inj x y xn yn (jog z)))]
   by_cases hx:x∈rs
   ·rw[Am hx,Am (Im _ hx),ixa hx]
   ·rw[Ah hx,Ah (λz=>(A0.mp z).elim hx (by simpa using c))]
 ·have:=jev kvs ((dec y).map kN) (nV rs.length)
  have:=h.kl
  rw[Ae,List.length_cons,List.length_nil]
  omega
def spST(g:Nat->Nat->Nat)(dec:Nat->List Nat)(n m:Nat)(R:Hp->Prop):Sp:=λvs H Q _=>∃(b:Addr)(r a:Nat),vs=[.ref b,.int (a:Int)]/\H b=some (.tup ((dec r).map nV))/\r<n/\a<m/\R H/\∀(b':Addr)(H':Hp),Kp [] H H'->H' b'=some (.tup ((dec (g r a)).map nV))->Q (.ref b') H'
structure LgT(P:Program)(w:World)(K:PySem.W.Frag)(mg:Str->Option Value)(base:Heap)(fp:Addr)(o:Obj)(fd:FuncData)(psp:List Str)(g:Nat->Nat->Nat)(dec:Nat->List Nat)(n m:Nat)(R:Hp->Prop):Prop where
 dat:o.data=.func fd
 fn:FnOk P w K mg base CX0 3 fp fd psp (spST g dec n m R)
 bi:Binds K fd psp []
 at_:∀H,R H->H fp=some (FZ o)
 kr:∀H H',Kp [] H H'->R H->R H'
def spCT(P:Program)(w:World)(K:PySem.W.Frag)(mg:Str->Option Value)(base:Heap):Sp:=λvs H Q _=>∃(fp b0:Addr)(o:Obj)(fd:FuncData)(psp:List Str)(g:Nat->Nat->Nat)(dec:Nat->List Nat)(n m first:Nat)(R:Hp->Prop),LgT P w K mg base fp o fd psp g dec n m R/\R H/\vs=[.ref b0,.int (m:Int),.ref fp,.non,.int 0]/\H b0=some (.tup ((dec first).map nV))/\first<n/\n<=1000/\m<=1000/\(∀r a,r<n->a<m->g r a<n)/\(∀x y,x<n->y<n->dec x=dec y->x=y) /\
 ∀(q a1 a2:Addr)(vs' us':List V)(rs:List Nat)(H':Hp),Bf g m first rs.length rs->H' q=some (.tup [.ref a1,.ref a2])->H' a1=some (.lst vs')->RowsM H' vs' (rs.map dec)->H' a2=some (.tup us')->RowsM H' us' (cuM g m rs)->Kp [] H H'->Q (.ref q) H'
section
variable{P:Program}{w:World}{K:PySem.W.Frag}{mg:Str->Option Value}{base:Heap}
theorem ok_come_upT{f td:Addr}{fd:FuncData}(F:FunD K "come_up" "come_up" zc f fd td)(T:TCU mg):FnOk P w K mg base CX0 4 f fd ["first","signs","step","most","at"] (spCT P w K mg base):=by
 refine F.ok y6 (λvs H Q E h=>?_) (λcdv A outer s H vs Q E hr h=>?_)
 ·obtain⟨fp,b0,o,fd,psp,g,dec,n,m,first,R,_,_,rfl,_⟩:=h
  rfl
 ·obtain⟨fp,b0,o,fd',psp,g,dec,n,m,first,R,L,hR,rfl,hb0,f0,n9,m9,gl,inj,k⟩:=h
  have hu:=hr.units
  have hsz:sizeLine=16777216:=Iw
  have hu1:(A.deeper (PyProof.Rows.envOfC (Str.ofString "come_up") (jh zc) s.heap.objs.size f cdv)).units+1<cLine:=by omega
  refine exQ (jg (jk (i:=5) y6.nd rfl (by ac_rfl) (jbg hu1 (qpv 0) je))
  (jg (jk (i:=6) y6.nd rfl (by ac_rfl) (ya (ja (qpv 0) jc)))
  (jg (jk (i:=7) y6.nd rfl (by ac_rfl) (ya jc))
  (jg (jal Od (jr ja4 (jn j4 (by rfl) T.n_len ke (ja (qpv 7) jc)) (jn j4 (by rfl) T.n_len ke (ja (qpv 6) jc)) (jz _)) (jg (jk (i:=8) y6.nd rfl (by ac_rfl) (ji ix_U (qpv 6) (jn j4 (by rfl) T.n_len ke (ja (qpv 7) jc)) (λ_ _=>rfl)))
  (jg (jk (i:=9) y6.nd rfl (by ac_rfl) (ya jc))
  (jg (zb Od rfl (yq rfl T.n_range (ja (qpv 1) jc)) (jv (i:=10) y6.nd rfl (by ac_rfl)) (jg (jk (i:=11) y6.nd rfl (by ac_rfl) (qpe_callD (P:=P) (w:=w) (K:=K) (mg:=mg) (base:=base) (k:=3) rfl rfl rfl rfl rfl 2 (hr.mono (by decide)) (ja (qpv 8) (ja (qpv 10) jc))))
  (ym (ki (jbu (ja6 hu1 (qpv 11) (qpv 5)) (by with_unfolding_all rfl)) (ym (ki (jr (yh hu) (jn j4 (by rfl) T.n_len ke (ja (qpv 6) jc)) (qpv 3) (jz _)) (jj qps_never) j8)
  (jg (jbm hu1 (qpv 5) (qpv 11) (jn j4 (by rfl) T.n_len ke (ja (qpv 6) jc)) rfl)
  (jj (yi (yv Iu Iv yb (qpv 6) (ja (qpv 11) jc) jd3))))) j8)
  (jj (yi (yv Iu Iv yb (qpv 9) (ja (ja3 hu1 (qpv 5) (qpv 11) (λ_ _=>rfl)) jc) jd3))))))
  (jj (yi (yv Iu Iv yb (qpv 7) (ja (ju yg (by rfl) T.n_tuple y8 (ja (qpv 9) jc)) jc) jd3)))))))
  (jj (jx (j9 (ja (qpv 6) (ja (ju yg (by rfl) T.n_tuple y8 (ja (qpv 7) jc)) jc))))))))) ?_
  simp!
  intro pn hpn
  have nb0:b0≠pn:=jf hb0 hpn
  refine⟨_,rfl,(dec first).map kN,by rw[jd nb0,ji7];exact hb0,by show 0<sizeLine;omega,by omega,λpr hpr=>⟨by omega,λpv hpv=>?_⟩⟩
  have nnr:pn≠pr:=jf jb hpr
  have nnv:pn≠pv:=jf (by rw[jd nnr,jb]) hpv
  have nrv:pr≠pv:=jf jb hpv
  have k0:=(((Kp.refl [] H).new (o:=.dT (putK [] ((dec first).map kN) (.int 0))) hpn).new (o:=.lst [.ref b0]) hpr).new (o:=.lst []) hpv
  have hpr0:H pr=none:=((Kp.refl [] H).new hpn).free hpr
  have hpv0:H pv=none:=(((Kp.refl [] H).new hpn).new hpr).free hpv
  obtain⟨W0,hW0⟩:∃W0:Nat->L2.St->Hp->Prop,∀μ σ H',W0 μ σ H'↔(∃(rs:List Nat)(kvs:List (List L2.Key×V))(vs us:List V)(j:Nat)(v8 v9 v10 v11:Option V),σ=[some (.ref b0),some (.int (m:Int)),some (.ref fp),some .non,some (.int 0),some (.ref pn),some (.ref pr),some (.ref pv),v8,v9,v10,v11]/\Bf g m first j rs/\NmT dec n rs kvs/\H' pn=some (.dT kvs)/\H' pr=some (.lst vs)/\RowsM H' vs (rs.map dec)/\H' pv=some (.lst us)/\us.length=j/\RowsM H' us ((rs.take j).map λr=>(List.range m).map λa=>rs.idxOf (g r a))/\Kp [] H H'/\μ=n-j):=⟨_,λ_ _ _=>O7⟩
  refine⟨W0,?_,?_⟩
  ·have n0:NmT dec n [first] (putK [] ((dec first).map kN) (.int 0)):=NmT.new (rs:=[]) (kvs:=[]) ⟨λx _=>by simp[valV],Al _⟩ inj (y:=first) f0 (by simp)
   exact⟨_,(hW0 _ _ _).mpr ⟨[first],_,[.ref b0],[],0,none,none,none,none,rfl,.z,n0,by rw[jd nnv,jd nnr,jb],by rw[jd nrv,jb],.cons ⟨b0,rfl,k0.tup _ _ hb0⟩ .nil,jb,rfl,.nil,k0,rfl⟩⟩
  intro μ σ H1 hW
  obtain⟨rs,kvs,vs,us,j,v8,v9,v10,v11,rfl,bf,N,e1,e2,e5,e3,ul,R1,kp,rfl⟩:=(hW0 _ _ _).mp hW
  clear hW
  have bi:=bf.inv f0 gl
  have rl:rs.length<=n:=jfy bi.nd bi.lt
  have jl:=bi.jl
  have vl:vs.length=rs.length:=by have:=Ou e5;rw[Aa]at this;exact this
  simp! [e2,e3]
  rw[vl,ul]
  by_cases c:j<rs.length
  ·rw[Am (by simpa using c)]
   have er:rs[j]?=some (rs[j]):=Ic c
   generalize rs[j]=r at er
   have rn:=bi.lt r (Ay er)
   obtain⟨br,hvr,hbr⟩:=e5.get (show(rs.map dec)[j]?=some (dec r)by rw[A9,er];rfl)
   refine⟨_,λ_ _ h=>h,.ref br,jdv hvr,by omega,λpw hpw=>⟨by omega,by omega,?_⟩⟩
   rw[show((m:Int)).toNat=m by omega]
   have nnw:pn≠pw:=jf e1 hpw
   have nrw:pr≠pw:=jf e2 hpw
   have nvw:pv≠pw:=jf e3 hpw
   have hpw0:H pw=none:=kp.free hpw
   have kw:Kp [] H1 (upd H1 pw (.lst [])):=(Kp.refl [] H1).new hpw
   obtain⟨W1,hW1⟩:∃W1:Nat->L2.St->Hp->Prop,∀a σ H',W1 a σ H'↔(∃(kvs:List (List L2.Key×V))(vs:List V)(v10 v11:Option V),σ=[some (.ref b0),some (.int (m:Int)),some (.ref fp),some .non,some (.int 0),some (.ref pn),some (.ref pr),some (.ref pv),some (.ref br),some (.ref pw),v10,v11]/\NmT dec n (cuR g r a rs) kvs/\H' pn=some (.dT kvs)/\H' pr=some (.lst vs)/\RowsM H' vs ((cuR g r a rs).map dec)/\H' pv=some (.lst us)/\H' pw=some (.lst ((List.range a).map λb=>nV ((cuR g r a rs).idxOf (g r b))))/\RowsM H' us ((rs.take j).map λr=>(List.range m).map λa=>rs.idxOf (g r a))/\Kp [] H H'/\H' br=some (.tup ((dec r).map nV))):=⟨_,λ_ _ _=>O7⟩
   refine jd7 W1 ?_ ?_ ?_
   ·exact(hW1 _ _ _).mpr ⟨kvs,vs,v10,v11,rfl,N,kw.old _ _ e1 Aj,kw.old _ _ e2 Aj,e5.kp kw,kw.old _ _ e3 Aj,jb,R1.kp kw,kp.trans kw,kw.tup _ _ hbr⟩
   ·intro a σ H2 ha hW
    obtain⟨kvs,vs,v10,v11,rfl,N,e1,e2,e5,e3,e4,R1,kp,hbr⟩:=(hW1 _ _ _).mp hW
    clear hW
    have cl:(cuR g r a rs).length<=n:=jfy (jg6 bi.nd a) λx hx=>by
     rcases jff a x hx with h|⟨b,h1,h2⟩
     ·exact bi.lt x h
     ·rw[h2];exact gl r b rn (by omega)
    simp!
    rw[Int.zero_add]
    refine⟨o,fd',L.dat,psp,spST g dec n m R,L.fn,L.bi,L.at_ _ (L.kr _ _ kp hR),br,r,a,rfl,hbr,rn,ha,L.kr _ _ kp hR,λbt H3 k3 hbt=>?_⟩
    have e1:=k3.old _ _ e1 Aj
    have e2:=k3.old _ _ e2 Aj
    have e3:=k3.old _ _ e3 Aj
    have e4:=k3.old _ _ e4 Aj
    have e5:=e5.kp k3
    have hbr:=k3.tup _ _ hbr
    have R1:=R1.kp k3
    have kp:=kp.trans k3
    have kl:=N.kl
    have gn:=gl r a rn ha
    have hbt':H3 bt=some (.tup (((dec (g r a)).map kN).map kV)):=by rw[ji7];exact hbt
    clear k3
    obtain⟨W2,hW2⟩:∃W2:L2.St->Hp->Prop,∀σ' H',W2 σ' H'↔(∃(kvs:List (List L2.Key×V))(vs:List V),σ'=[some (.ref b0),some (.int (m:Int)),some (.ref fp),some .non,some (.int 0),some (.ref pn),some (.ref pr),some (.ref pv),some (.ref br),some (.ref pw),some (.int (a:Int)),some (.ref bt)]/\NmT dec n (cuR g r (a+1) rs) kvs/\H' pn=some (.dT kvs)/\H' pr=some (.lst vs)/\RowsM H' vs ((cuR g r (a+1) rs).map dec)/\H' pv=some (.lst us)/\H' pw=some (.lst ((List.range a).map λb=>nV ((cuR g r a rs).idxOf (g r b))))/\RowsM H' us ((rs.take j).map λr=>(List.range m).map λa=>rs.idxOf (g r a))/\Kp [] H H'/\H' br=some (.tup ((dec r).map nV))/\H' bt=some (.tup ((dec (g r a)).map nV))):=⟨_,λ_ _=>O7⟩
    refine⟨W2,?_,?_⟩
    ·simp!
     refine⟨_,DGet.t (k:=(dec (g r a)).map kN) e1 hbt',?_⟩
     rw[N.num (g r a) gn]
     have ec:=jez (g:=g) (r:=r) (a:=a) (rs:=rs)
     unfold cu1 at ec
     by_cases c:g r a∈cuR g r a rs
     ·rw[Am c]at ec
      rw[Am c]
      simp only[Option.isSome_some,A4,Af,Ih]
      exact(hW2 _ _).mpr ⟨kvs,vs,rfl,by rw[ec];exact N,e1,e2,by rw[ec];exact e5,e3,e4,R1,kp,hbr,hbt⟩
     ·rw[Ah c]at ec
      rw[Ah c]
      simp only[Option.isSome_none,Az,Ik]
      have cl1:(cuR g r a rs).length+1<=n:=by
       have:=jfy (S:=cuR g r a rs++[g r a]) (n:=n) (by
        rw[Wx]
        exact⟨jg6 bi.nd a,by simp,λx hx y hy e=>c ((e.trans (Ai.mp hy))▸hx)⟩) (λx hx=>by
        rcases A0.mp hx with h|h
        ·rcases jff a x h with h|⟨b,h1,h2⟩
         ·exact bi.lt x h
         ·rw[h2];exact gl r b rn (by omega)
        ·cases Ai.mp h;exact gn)
       simpa using this
      have vl:vs.length=(cuR g r a rs).length:=by have:=Ou e5;rw[Aa]at this;exact this
      refine⟨λσ' H'=>σ'=[some (.ref b0),some (.int (m:Int)),some (.ref fp),some .non,some (.int 0),some (.ref pn),some (.ref pr),some (.ref pv),some (.ref br),some (.ref pw),some (.int (a:Int)),some (.ref bt)]/\H3=H',?_,?_⟩
      ·simp! [e2]
       refine⟨rfl,_,rfl,?_⟩
       rw[Ah (by simp)]
      rintro _ _ ⟨rfl,rfl⟩
      simp! [e2]
      have e2p:upd H3 pn (.dT (putK kvs ((dec (g r a)).map kN) (nV (cuR g r a rs).length))) pr=some (.lst vs):=by rw[jd nnr.symm];exact e2
      have kq:Kp [pn] H3 (upd H3 pn (.dT (putK kvs ((dec (g r a)).map kN) (nV (cuR g r a rs).length)))):=jfl (Kp.refl [pn] H3) e1 (.inl (by simp))
      have kq2:Kp [pr] (upd H3 pn (.dT (putK kvs ((dec (g r a)).map kN) (nV (cuR g r a rs).length)))) (upd (upd H3 pn (.dT (putK kvs ((dec (g r a)).map kN) (nV (cuR g r a rs).length)))) pr (.lst (vs++[.ref bt]))):=(Kp.refl [pr] _).set e2p (.inl (.head _))
      refine⟨upd H3 pn (.dT (putK kvs ((dec (g r a)).map kN) (nV (cuR g r a rs).length))),by rw[vl];exact DPut.t (k:=(dec (g r a)).map kN) (v:=nV (cuR g r a rs).length) e1 hbt' (by omega),by rw[e2p];rfl,_,by rw[e2p];rfl,by omega,(hW2 _ _).mpr ⟨_,_,rfl,by rw[ec];exact N.new inj gn c,by rw[jd nnr,jb],jb,?_,?_,?_,(R1.kp kq).kp kq2,(jfl kp e1 (.inr hpn)).set e2p (.inr hpr0),kq2.tup _ _ (kq.tup _ _ hbr),kq2.tup _ _ (kq.tup _ _ hbt)⟩⟩
      ·rw[ec,I0];exact Paired.snoc ((e5.kp kq).kp kq2) ⟨bt,rfl,kq2.tup _ _ (kq.tup _ _ hbt)⟩
      ·rw[jd nrv.symm,jd nnv.symm];exact e3
      ·rw[jd nrw.symm,jd nnw.symm];exact e4
    intro σ' H4 hW
    obtain⟨kvs,vs,rfl,N,e1,e2,e5,e3,e4,R1,kp,hbr,hbt⟩:=(hW2 _ _).mp hW
    clear hW
    simp! [e4]
    have hbt':H4 bt=some (.tup (((dec (g r a)).map kN).map kV)):=by rw[ji7];exact hbt
    have kw4:∀x,Kp [pw] H4 (upd H4 pw (.lst ((List.range a).map (λb=>nV ((cuR g r a rs).idxOf (g r b)))++[x]))):=λx=>(Kp.refl [pw] H4).set e4 (.inl (.head _))
    refine⟨nV ((cuR g r (a+1) rs).idxOf (g r a)),.inr ⟨kvs,(dec (g r a)).map kN,bt,.inl e1,rfl,hbt',?_⟩,by rw[Aa,Of];omega,(hW1 _ _ _).mpr ⟨kvs,vs,_,_,rfl,N,by rw[jd nnw];exact e1,by rw[jd nrw];exact e2,e5.kp (kw4 _),by rw[jd nvw];exact e3,?_,R1.kp (kw4 _),kp.set e4 (.inr hpw0),(kw4 _).tup _ _ hbr⟩⟩
    ·rw[N.num _ gn,Am (jf7 g r rs (a+1) a (by omega))]
    ·rw[jb,Wj,I0]
     refine Uh (λl=>some (HO.lst (l++[nV ((cuR g r (a+1) rs).idxOf (g r a))]))) (Om λb hb=>?_)
     obtain⟨t,et⟩:=jhr g r (cuR g r a rs) a
     rw[jez,et,ixa (jf7 g r rs a b (Ow.mp hb))]
   ·intro σ H2 hW
    obtain⟨kvs,vs,v10,v11,rfl,N,e1,e2,e5,e3,e4,R2,kp,hbr⟩:=(hW1 _ _ _).mp hW
    clear hW
    simp!
    refine⟨by rw[e3];rfl,?_⟩
    refine jd1 e4 λl hl=>?_
    have kl:Kp [] H2 (upd H2 l (.tup ((List.range m).map λb=>nV ((cuR g r m rs).idxOf (g r b))))):=(Kp.refl [] H2).new hl
    have el:upd H2 l (.tup ((List.range m).map λb=>nV ((cuR g r m rs).idxOf (g r b)))) l=some (.tup (((List.range m).map λb=>(cuR g r m rs).idxOf (g r b)).map nV)):=by rw[jb,Oq];rfl
    generalize upd H2 l (.tup ((List.range m).map λb=>nV ((cuR g r m rs).idxOf (g r b))))=H3 at kl el⊢
    have e33:=kl.old _ _ e3 Aj
    have kv:Kp [pv] H3 (upd H3 pv (.lst (us++[.ref l]))):=(Kp.refl [pv] H3).set e33 (.inl (.head _))
    refine⟨us,by rw[e33];rfl,by omega,n-(j+1),by omega,(hW0 _ _ _).mpr ⟨cuR g r m rs,kvs,vs,us++[.ref l],j+1,_,_,_,_,rfl,.s bf er,N,by rw[jd nnv];exact kl.old _ _ e1 Aj,by rw[jd nrv];exact kl.old _ _ e2 Aj,(e5.kp kl).kp kv,jb,by simp[ul],?_,(kp.trans kl).set e33 (.inr hpv0),rfl⟩⟩
    obtain⟨t,et⟩:=jhs g r rs m
    have e5:(cuR g r m rs).take (j+1)=rs.take j++[r]:=by rw[et,Iz (by omega),Ww,er];rfl
    rw[e5,I0]
    have e6:(rs.take j).map (λr'=>(List.range m).map λa=>(cuR g r m rs).idxOf (g r' a))=(rs.take j).map λr'=>(List.range m).map λa=>rs.idxOf (g r' a):=Om λx hx=>Om λa ha=>by
     rw[et,ixa (bi.cl x hx a (Ow.mp ha))]
    rw[e6]
    exact Paired.snoc ((R2.kp kl).kp kv) ⟨l,rfl,kv.tup _ _ el⟩
  ·have ej:j=rs.length:=by omega
   subst ej
   rw[Ah (by simpa using c)]
   refine jd1 e3 λa2 ha2=>⟨by omega,λq hq=>?_⟩
   rw[Ux]at R1
   have k2:Kp [] H1 (upd H1 a2 (.tup us)):=(Kp.refl [] H1).new ha2
   have k3:Kp [] (upd H1 a2 (.tup us)) (upd (upd H1 a2 (.tup us)) q (.tup [.ref pr,.ref a2])):=(Kp.refl [] _).new hq
   exact k q pr a2 vs us rs _ bf jb (k3.old _ _ (k2.old _ _ e2 Aj) (by simp)) ((e5.kp k2).kp k3) (k3.tup _ _ jb) ((R1.kp k2).kp k3) ((kp.trans k2).trans k3)
end
local macro_rules
 | `(tactic| simp!)=>`(tactic| simp only [tSeq,tIfS,jdl,tOp,tVar,tC,tAsg,jc4,gSub,tRet,jdi,jdf,jdg,tAnd,tOr,tNot,jda,jdj,tB,jdd,rI0,rI,jb2,jb4,jb9,jca,jcn,jco,jcm,jcg,jb7,jb6,jb8,jb5,jck,jb1,jb0,jcb,jby,jci,jcz,jcj,jch,jcp,jc1,jcr,jcq,jcc,jcy,jb3,jcf,jcd,jce,Option.isSome_some,tBML,tCB,jde,tNil,tLst,tTup,jdn,tSl,jdk,jcw,jcs,iAny,jdb,jc5,jc7,jcv,jdc,tAug,ipI,jc2,jc9,jcu,jcx,jdh,jc8,hdl,jc0,jcl,tBM,jc3,Option.bind_some,Option.bind_none,Option.getD_some,L2.start,Ak,Au,List.length_cons,List.length_nil,List.cons_append,List.nil_append,Aq,At,List.replicate,List.getElem?_cons_zero,List.getElem?_cons_succ,List.set_cons_zero,List.set_cons_succ,Nat.reduceSub,Nat.reduceAdd,Nat.reduceLeDiff,Ap,V.int.injEq,V.bl.injEq,V.str.injEq,V.ref.injEq,HO.lst.injEq,HO.tup.injEq,Aw,A3,Ax,Is,Ii,jb,jct,jdm,jdp,jdq,A4,Az,Ao,Af,Ih,Ik,reduceIte,reduceCtorEq,jc6,tLam,jbz,jdx,jbz,jdr])
 | `(tactic| simp! [$ls,*])=>`(tactic| simp only [tSeq,tIfS,jdl,tOp,tVar,tC,tAsg,jc4,gSub,tRet,jdi,jdf,jdg,tAnd,tOr,tNot,jda,jdj,tB,jdd,rI0,rI,jb2,jb4,jb9,jca,jcn,jco,jcm,jcg,jb7,jb6,jb8,jb5,jck,jb1,jb0,jcb,jby,jci,jcz,jcj,jch,jcp,jc1,jcr,jcq,jcc,jcy,jb3,jcf,jcd,jce,Option.isSome_some,tBML,tCB,jde,tNil,tLst,tTup,jdn,tSl,jdk,jcw,jcs,iAny,jdb,jc5,jc7,jcv,jdc,tAug,ipI,jc2,jc9,jcu,jcx,jdh,jc8,hdl,jc0,jcl,tBM,jc3,Option.bind_some,Option.bind_none,Option.getD_some,L2.start,Ak,Au,List.length_cons,List.length_nil,List.cons_append,List.nil_append,Aq,At,List.replicate,List.getElem?_cons_zero,List.getElem?_cons_succ,List.set_cons_zero,List.set_cons_succ,Nat.reduceSub,Nat.reduceAdd,Nat.reduceLeDiff,Ap,V.int.injEq,V.bl.injEq,V.str.injEq,V.ref.injEq,HO.lst.injEq,HO.tup.injEq,Aw,A3,Ax,Is,Ii,jb,jct,jdm,jdp,jdq,A4,Az,Ao,Af,Ih,Ik,reduceIte,reduceCtorEq,jc6,tLam,jbz,jdx,jbz,jdr,$ls,*])
section
variable{m m':Mach}{N N':Nat}
theorem jk9(a:Mach.Ok m N)(b:Mach.Ok m' N')(e:m'.z=m.z):Mach.Ok (jdu m m') (N+N'):=by
 have h1:=a.n1
 have h2:=a.nh
 have h3:=b.nh
 have l:(jdu m m').mv.length=m.mv.length+m'.mv.length:=by simp[jdu]
 refine⟨a.let4,by omega,by omega,by rw[l];simp[jdu,a.yl,b.yl],λr hr=>?_⟩
 rw[l]
 rcases A0.mp hr with h|h
 ·obtain⟨q1,q2⟩:=a.row r h
  exact⟨q1,λt ht=>by have:=q2 t ht;omega⟩
 ·obtain⟨r0,h0,rfl⟩:=Ij.mp h
  obtain⟨q1,q2⟩:=b.row r0 h0
  refine⟨by rw[Aa,q1,e];rfl,λt ht=>?_⟩
  obtain⟨t0,h1,rfl⟩:=Ij.mp ht
  have:=q2 t0 h1
  omega
theorem jiw(a:Mach.Ok m N){p x:Nat}(hp:p<m.mv.length):dl (jdu m m') p x=dl m p x/\yy (jdu m m') p=yy m p:=by
 have yl:=a.yl
 refine⟨?_,?_⟩
 ·unfold dl jdu
  dsimp only
  rw[Ag (l:=_++_),A1 hp,<-Ag]
 ·unfold yy jdu
  dsimp only
  rw[Ag,A1 (by omega),<-Ag]
theorem jix(a:Mach.Ok m N)(b:Mach.Ok m' N'){p x:Nat}(hp:p<m'.mv.length)(hx:x<m'.z.length):dl (jdu m m') (m.mv.length+p) x=m.mv.length+dl m' p x/\yy (jdu m m') (m.mv.length+p)=yy m' p:=by
 have yl:=a.yl
 refine⟨?_,?_⟩
 ·obtain⟨c1,c2,c3⟩:=b.cell hp hx
  unfold dl at c2⊢
  unfold jdu
  dsimp only
  rw[Ag (l:=_++_),Ib (by omega),A9,show m.mv.length+p-m.mv.length=p by omega,Ic hp]
  have e:m'.mv.getD p []=m'.mv[p]:=by rw[Ag,Ic hp];rfl
  rw[e]at c1 c2⊢
  show(((m'.mv[p].map λt=>(m.mv.length:Int)+t).getD x 0)).toNat=_
  rw[Ag,A9,Ic (by omega)]
  rw[Ag,Ic (by omega)]at c2⊢
  show((m.mv.length:Int)+m'.mv[p][x]).toNat=m.mv.length+(m'.mv[p][x]).toNat
  have c2:m'.mv[p][x]=_:=c2
  rw[c2];omega
 ·unfold yy jdu
  dsimp only
  rw[Ag,Ib (by omega),show m.mv.length+p-m.ye.length=p by omega,<-Ag]
theorem jgd(a:Mach.Ok m N):∀(u:List Nat)(p:Nat),p<m.mv.length->Ov m.z.length u->run (dl (jdu m m')) p u=run (dl m) p u
 |[],_,_,_=>rfl
 |x::u,p,hp,ho=>by
  show run (dl (jdu m m')) (dl (jdu m m') p x) u=run (dl m) (dl m p x) u
  rw[(jiw a hp).1]
  exact jgd a u _ (a.cell hp (ho x (.head _))).2.2 λb hb=>ho b (.tail _ hb)
theorem jge(a:Mach.Ok m N)(b:Mach.Ok m' N'):∀(u:List Nat)(p:Nat),p<m'.mv.length->Ov m'.z.length u->run (dl (jdu m m')) (m.mv.length+p) u=m.mv.length+run (dl m') p u
 |[],_,_,_=>rfl
 |x::u,p,hp,ho=>by
  show run (dl (jdu m m')) (dl (jdu m m') (m.mv.length+p) x) u=_+run (dl m') (dl m' p x) u
  rw[(jix a b hp (ho x (.head _))).1]
  exact jge a b u _ (b.cell hp (ho x (.head _))).2.2 λb hb=>ho b (.tail _ hb)
end
local macro_rules
 | `(tactic| simp!)=>`(tactic| simp only [tSeq,tIfS,jdl,tOp,tVar,tC,tAsg,jc4,gSub,tRet,jdi,jdf,jdg,tAnd,tOr,tNot,jda,jdj,tB,jdd,rI0,rI,jb2,jb4,jb9,jca,jcn,jco,jcm,jcg,jb7,jb6,jb8,jb5,jck,jb1,jb0,jcb,jby,jci,jcz,jcj,jch,jcp,jc1,jcr,jcq,jcc,jcy,jb3,jcf,jcd,jce,Option.isSome_some,tBML,tCB,jde,tNil,tLst,tTup,jdn,tSl,jdk,jcw,jcs,iAny,jdb,jc5,jc7,jcv,jdc,tAug,ipI,jc2,jc9,jcu,jcx,jdh,jc8,hdl,jc0,jcl,tBM,jc3,Option.bind_some,Option.bind_none,Option.getD_some,L2.start,Ak,Au,List.length_cons,List.length_nil,List.cons_append,List.nil_append,Aq,At,List.replicate,List.getElem?_cons_zero,List.getElem?_cons_succ,List.set_cons_zero,List.set_cons_succ,Nat.reduceSub,Nat.reduceAdd,Nat.reduceLeDiff,Ap,V.int.injEq,V.bl.injEq,V.str.injEq,V.ref.injEq,HO.lst.injEq,HO.tup.injEq,Aw,A3,Ax,Is,Ii,jb,jct,jdm,jdp,jdq,A4,Az,Ao,Af,Ih,Ik,reduceIte,reduceCtorEq,jc6,tLam,jbz,jdx,jbz,jdr])
 | `(tactic| simp! [$ls,*])=>`(tactic| simp only [tSeq,tIfS,jdl,tOp,tVar,tC,tAsg,jc4,gSub,tRet,jdi,jdf,jdg,tAnd,tOr,tNot,jda,jdj,tB,jdd,rI0,rI,jb2,jb4,jb9,jca,jcn,jco,jcm,jcg,jb7,jb6,jb8,jb5,jck,jb1,jb0,jcb,jby,jci,jcz,jcj,jch,jcp,jc1,jcr,jcq,jcc,jcy,jb3,jcf,jcd,jce,Option.isSome_some,tBML,tCB,jde,tNil,tLst,tTup,jdn,tSl,jdk,jcw,jcs,iAny,jdb,jc5,jc7,jcv,jdc,tAug,ipI,jc2,jc9,jcu,jcx,jdh,jc8,hdl,jc0,jcl,tBM,jc3,Option.bind_some,Option.bind_none,Option.getD_some,L2.start,Ak,Au,List.length_cons,List.length_nil,List.cons_append,List.nil_append,Aq,At,List.replicate,List.getElem?_cons_zero,List.getElem?_cons_succ,List.set_cons_zero,List.set_cons_succ,Nat.reduceSub,Nat.reduceAdd,Nat.reduceLeDiff,Ap,V.int.injEq,V.bl.injEq,V.str.injEq,V.ref.injEq,HO.lst.injEq,HO.tup.injEq,Aw,A3,Ax,Is,Ii,jb,jct,jdm,jdp,jdq,A4,Az,Ao,Af,Ih,Ik,reduceIte,reduceCtorEq,jc6,tLam,jbz,jdx,jbz,jdr,$ls,*])
abbrev WQ:Str:="walked_pairs"++".<locals>."++"<lambda>"
structure TWp(P:Program)(w:World)(K:PySem.W.Frag)(mg:Str->Option Value)(base:Heap)(fcu c Pt:Addr)(pm:Value):Prop where
 n_len:mg "len"=none
 m19z:mg "come_up"=some (.ref fcu)
 pm:(mg "__name__").getD .none=pm
 hd:PySem.W.CodeHd base c Pt
 bl:base.BuiltinsAt mg Pt
def prF(fx fy:Nat->Nat)(r:Nat):List Nat:=[fx r,fy r]
structure WPr(mv mv':List (List Nat))(m n:Nat)(g:Nat->Nat->Nat)(fx fy:Nat->Nat):Prop where
 n1:1<=n
 x0:fx 0=0
 y0:fy 0=0
 lt:∀r,r<n->fx r<mv.length/\fy r<mv'.length
 st:∀r a,r<n->a<m->g r a<n/\fx (g r a)=dM mv (fx r) a/\fy (g r a)=dM mv' (fy r) a
 inj:∀x y,x<n->y<n->prF fx fy x=prF fx fy y->x=y
def spWP(Pt:Addr):Sp:=λvs H Q _=>∃(p p' a1 a2 b1 b2:Addr)(z:Str)(us us':List V)(mv mv':List (List Nat))(m:Nat)(ys ys':List Bool)(n:Nat)(g:Nat->Nat->Nat)(fx fy:Nat->Nat),vs=[.ref p,.ref p',.non]/\MH H p z a1 a2 us mv m ys/\MH H p' z b1 b2 us' mv' m ys'/\z.length=m/\n<=1000/\WPr mv mv' m n g fx fy/\TabOk H Pt WQ /\
 ∀(q q1 q2:Addr)(vs':List V)(rs:List Nat)(H':Hp),Bf g m 0 rs.length rs->rs.length<=n->H' q=some (.tup [.ref q1,.ref q2])->H' q1=some (.lst vs')->RowsM H' vs' (rs.map (prF fx fy))->Kp [Pt] H H'->TabOk H' Pt WQ->Q (.ref q) H'
section
variable{P:Program}{w:World}{K:PySem.W.Frag}{mg:Str->Option Value}{base:Heap}
abbrev yf:Stmt:=top 18
theorem sc_walked_pairs:FnScope ["one","other","most"] ["one","other","most"] (jh yf):=⟨rfl,rfl,rfl,by decide +kernel,rfl,by decide +kernel,by decide +kernel⟩
def jku:Expr:=match jt yf with
 |.Return (some (.Call _ [_,_,l,_] _ _)) _::_=>l
 |_=>.Name "" ⟨0,0,0,0⟩
def jir:Arguments:=match jku with
 |.Lambda a _ _ _=>a
 |_=>j6 (.Pass ⟨0,0,0,0⟩)
def jis:Expr:=match jku with
 |.Lambda _ b _ _=>b
 |_=>.Name "" ⟨0,0,0,0⟩
def lamS2:Scope:=match jku with
 |.Lambda _ _ c _=>c
 |_=>jh (.Pass ⟨0,0,0,0⟩)
theorem jol:LamScope ["pair","sign"] ["one","other"] lamS2:=⟨rfl,rfl,rfl,by decide +kernel,by decide +kernel,by decide +kernel,by decide +kernel,λx h=>by
 have hn:lamS2.names=[(Str.ofString "pair",.local),(Str.ofString "sign",.local),(Str.ofString "one",.free),(Str.ofString "other",.free)]:=rfl
 rw[hn]at h
 by_cases h1:x=Str.ofString "one"
 ·rw[h1];exact .head _
 by_cases h2:x=Str.ofString "other"
 ·rw[h2];exact .tail _ (.head _)
 have b1:(x == Str.ofString "one")=false:=by simpa using h1
 have b2:(x == Str.ofString "other")=false:=by simpa using h2
 simp only[List.lookup_cons,List.lookup_nil,b1,b2]at h
 repeat (split at h <;> try (cases h))⟩
theorem ok_walked_pairs{f fcu c Pt td tdw:Addr}{fd fdc:FuncData}{pm:Value}{dfs:List Value}(F:FunD K "walked_pairs" "walked_pairs" yf f fd tdw)(T:TWp P w K mg base fcu c Pt pm)(hcd:fd.code=.ref c)
  (F19z:FunD K "come_up" "come_up" zc fcu fdc td) (b19z:Binds K fdc ["first","signs","step","most","at"] dfs) (h_come_up:Vals [.int 0] dfs) (G19z:FnOk P w K mg base CX0 4 fcu fdc ["first","signs","step","most","at"] (spCT P w K mg base)):FnOk P w K mg base CX0 5 f fd ["one","other","most"] (spWP Pt):=by
 refine F.okC sc_walked_pairs (λvs H Q E h=>?_) (λA outer s H vs Q E hr h=>?_)
 ·obtain⟨p,p',a1,a2,b1,b2,z,us,us',mv,mv',m,ys,ys',n,g,fx,fy,rfl,_⟩:=h
  rfl
 ·obtain⟨p,p',a1,a2,b1,b2,z,us,us',mv,mv',m,ys,ys',n,g,fx,fy,rfl,M,M',zl,n9,W,tb,k⟩:=h
  have hu:=hr.units
  have hsz:sizeLine=16777216:=Iw
  have m9:=M.m9
  refine exQ (jj (jx (qpe_callCD [(0,s.heap.objs.size+1),(1,s.heap.objs.size+2)] (by intro j hj;simp only[Il,Aj,W3]at hj;rcases hj with rfl|rfl <;> exact⟨_,rfl,rfl,rfl,rfl⟩) G19z (hr.mono (by decide)) rfl T.m19z F19z.kp b19z h_come_up (ja (j9 (ja je (ja je jc))) (ja (jn j4 (by rfl) T.n_len ke (ja (ji ix_U (qpv 0) je (λ_ _=>rfl)) jc)) (ja (qpe_lambda (Pt:=Pt) rfl T.pm hcd T.hd T.bl) (ja (qpv 2) jc))))))) ?_
  simp! [M.hp]
  refine⟨by omega,λt0 ht0=>?_⟩
  have kA:Kp [] H (upd H t0 (.tup [.int 0,.int 0])):=(Kp.refl [] H).new ht0
  have et0:upd H t0 (.tup [.int 0,.int 0]) t0=some (.tup [.int 0,.int 0]):=jb
  generalize upd H t0 (.tup [.int 0,.int 0])=HA at kA et0⊢
  have MA:=M.kp kA
  have MB:=M'.kp kA
  have tbA:=tb.kp kA (by simp) (by simp)
  refine⟨_,by rw[MA.hp];rfl,_,rfl,?_⟩
  simp!
  rw[zl]
  refine⟨by omega,tbA,λfl c' ct H1 hfl k1 e1 cz tb1=>?_⟩
  refine⟨λj hj=>by simp only[Il,Aj,W3]at hj;rcases hj with rfl|rfl <;> exact⟨_,rfl⟩,λcs hcs=>?_⟩
  obtain⟨o1,o2,rfl,hn1,hn2,⟨u1,d1,r1⟩,⟨u2,d2,r2⟩⟩:∃o1 o2,cs=[(s.heap.objs.size+1,o1),(s.heap.objs.size+2,o2)]/\H1 (s.heap.objs.size+1)=none/\H1 (s.heap.objs.size+2)=none/\(∃u,o1.data=.cell (some u)/\RelV (.ref p) u)/\∃u,o2.data=.cell (some u)/\RelV (.ref p') u:=by
   cases hcs with
   |cons h t =>
    cases t with
    |cons h' t' =>
     cases t'
     rename_i p1 p2
     obtain⟨x1,o1⟩:=p1
     obtain⟨x2,o2⟩:=p2
     obtain⟨e1,e2,v,u,e3,e4,e5⟩:=h
     obtain⟨e1',e2',v',u',e3',e4',e5'⟩:=h'
     cases(A7 (A7 e3))
     cases(A7 (A7 e3'))
     cases(show x1=s.heap.objs.size+1 from e1)
     cases(show x2=s.heap.objs.size+2 from e1')
     exact⟨o1,o2,rfl,e2,e2',⟨u,e4,e5⟩,⟨u',e4',e5'⟩⟩
  have n12:s.heap.objs.size+1≠s.heap.objs.size+2:=by omega
  have e1':H1 fl=some (FZ (PySem.W.kla_obj "<lambda>" WQ jir jis lamS2 [("other",s.heap.objs.size+2),("one",s.heap.objs.size+1)] pm c' ct)):=e1
  clear e1
  generalize s.heap.objs.size+2=n2 at e1' hn2 n12⊢
  generalize s.heap.objs.size+1=n1 at e1' hn1 n12⊢
  have b12:(n2 == n1)=false:=by simpa using n12.symm
  have lk:∀b,b≠n1->b≠n2->([(n1,o1),(n2,o2)]:List (Addr×Obj)).lookup b=none:=λb h h'=>by
   have q1:(b == n1)=false:=by simpa using h
   have q2:(b == n2)=false:=by simpa using h'
   simp only[List.lookup_cons,q1,q2,List.lookup_nil]
  have sh:∀b v,H1 b=some v->jei H1 [(n1,o1),(n2,o2)] b=some v:=λb v e=>by rw[jea (lk b (jf e hn1) (jf e hn2))];exact e
  have kS:Kp [] H1 (jei H1 [(n1,o1),(n2,o2)]):=⟨λb v e _=>sh b v e,λb xs e=>sh b _ e,λb v e=>⟨v,sh b v e⟩⟩
  have en1:jei H1 [(n1,o1),(n2,o2)] n1=some (FZ o1):=jfg (by simp[List.lookup])
  have en2:jei H1 [(n1,o1),(n2,o2)] n2=some (FZ o2):=jfg (by simp[List.lookup,b12])
  have cap:Caps (jei H1 [(n1,o1),(n2,o2)]) [("other",n2),("one",n1)] ["one","other"] [.ref p,.ref p']:=by
   refine⟨rfl,λi x v q1 q2=>?_,λx hx=>?_,λq hq=>?_,λx y c q1 q2=>?_⟩
   ·cases i with
    |zero=>cases q1;cases q2;exact⟨n1,o1,u1,rfl,en1,d1,r1⟩
    |succ i =>
     cases i with
     |zero=>cases q1;cases q2;exact⟨n2,o2,u2,rfl,en2,d2,r2⟩
     |succ i=>simp at q1
   ·simp only[Il,Aj,W3]at hx
    rcases hx with rfl|rfl
    ·exact⟨n1,rfl⟩
    ·exact⟨n2,rfl⟩
   ·simp only[Il,Aj,W3]at hq
    rcases hq with rfl|rfl
    ·exact⟨o2,some u2,en2,d2⟩
    ·exact⟨o1,some u1,en1,d1⟩
   ·simp only[List.lookup_cons,List.lookup_nil]at q1 q2
    split at q1
    ·cases q1
     split at q2
     ·rename_i z1 _ z2;rw[eq_of_beq z1,eq_of_beq z2]
     ·split at q2
      ·exact absurd (A7 q2) n12
      ·cases q2
    ·split at q1
     ·cases q1
      split at q2
      ·exact absurd (A7 q2).symm n12
      ·split at q2
       ·rename_i z1 _ _ _ z2;rw[eq_of_beq z1,eq_of_beq z2]
       ·cases q2
     ·cases q1
  obtain⟨R,hRd⟩:∃R:Hp->Prop,∀H,R H↔(H fl=some (FZ (PySem.W.kla_obj "<lambda>" WQ jir jis lamS2 [("other",n2),("one",n1)] pm c' ct))/\CodeZ H c' WQ/\Caps H [("other",n2),("one",n1)] ["one","other"] [.ref p,.ref p']/\MH H p z a1 a2 us mv m ys/\MH H p' z b1 b2 us' mv' m ys'):=⟨_,λ_=>O7⟩
  have L:LgT P w K mg base fl (PySem.W.kla_obj "<lambda>" WQ jir jis lamS2 [("other",n2),("one",n1)] pm c' ct) (PySem.W.kla_fn "<lambda>" WQ jir jis lamS2 [("other",n2),("one",n1)] pm (.ref c') ct) ["pair","sign"] g (prF fx fy) n m R:=by
   refine⟨rfl,jod (fs:=["one","other"]) jol (λvs H Q E h=>?_) (λvs H Q E h=>?_),.all (us2 λ_ _=>rfl),λH h=>((hRd H).mp h).1,λH H' k h=>?_⟩
   ·obtain⟨b,r,a,rfl,_⟩:=h
    rfl
   ·obtain⟨b,r,a,rfl,hb,hr',ha,hR,q⟩:=h
    obtain⟨R1,R2,R3,R4,R5⟩:=(hRd H).mp hR
    refine⟨R1,R2,[.ref p,.ref p'],R3,λA outer s hr=>⟨_,QE.h (j9 (ja (ji ix_U (ji ix_U (ji ix_U (qpv 2) je (λ_ _=>rfl)) (ji ix_U (qpv 0) je (λ_ _=>rfl)) (λ_ _=>rfl)) (qpv 1) (λ_ _=>rfl)) (ja (ji ix_U (ji ix_U (ji ix_U (qpv 3) je (λ_ _=>rfl)) (ji ix_U (qpv 0) je (λ_ _=>rfl)) (λ_ _=>rfl)) (qpv 1) (λ_ _=>rfl)) jc))),?_⟩⟩
    simp!
    have tk:∀b xs,H b=some (.tup xs)->hideC H [n2,n1] b=some (.tup xs):=λb xs e=>by
     rw[jdw (λmm=>by
      obtain⟨o2',u2',e2,_⟩:=R3.fz ("other",n2) (.head _)
      obtain⟨o1',u1',e1,_⟩:=R3.fz ("one",n1) (.tail _ (.head _))
      simp only[Il,Aj,W3]at mm
      rcases mm with rfl|rfl
      ·rw[show H b=_ from e2]at e;cases e
      ·rw[show H b=_ from e1]at e;cases e)]
     exact e
    obtain⟨xl,yl⟩:=W.lt r hr'
    obtain⟨gl,gx,gy⟩:=W.st r a hr' ha
    obtain⟨x,hx,hxr⟩:=R4.rw.get (getD_some mv (fx r) [] xl)
    obtain⟨y,hy,hyr⟩:=R5.rw.get (getD_some mv' (fy r) [] yl)
    refine⟨_,by rw[tk _ _ R4.hp];rfl,_,rfl,_,by rw[tk _ _ hb];rfl,.int (fx r:Nat),rfl,?_⟩
    rw[jcg,tk _ _ R4.hm]
    refine⟨_,rfl,.ref x,jdv hx,?_⟩
    rw[jcg,tk _ _ hxr]
    refine⟨_,rfl,nV (dM mv (fx r) a),jdv (by rw[A9,(R4.ok.at_ xl ha).1];rfl),?_⟩
    refine⟨_,by rw[tk _ _ R5.hp];rfl,_,rfl,_,by rw[tk _ _ hb];rfl,.int (fy r:Nat),rfl,?_⟩
    rw[jcg,tk _ _ R5.hm]
    refine⟨_,rfl,.ref y,jdv hy,?_⟩
    rw[jcg,tk _ _ hyr]
    refine⟨_,rfl,nV (dM mv' (fy r) a),jdv (by rw[A9,(R5.ok.at_ yl ha).1];rfl),by omega,λb' hb' hc=>q b' _ ((Kp.refl [] (hideC H [n2,n1])).new hb').backC ?_⟩
    rw[jd9 (λmm=>by have:=hc _ mm;rw[jb]at this;cases this),jb]
    unfold prF
    rw[gx,gy];rfl
   ·obtain⟨R1,R2,R3,R4,R5⟩:=(hRd H).mp h
    exact(hRd H').mpr ⟨k.old _ _ R1 Aj,R2.kp k (by simp),R3.kp k (by simp),R4.kp k,R5.kp k⟩
  have hR:R (jei H1 [(n1,o1),(n2,o2)]):=(hRd _).mpr ⟨sh _ _ e1',cz.kp kS (by simp),cap,(MA.kp k1).kp kS,(MB.kp k1).kp kS⟩
  refine⟨fl,t0,_,_,_,g,prF fx fy,n,m,0,R,L,hR,rfl,?_,W.n1,n9,m9,λr a hr ha=>(W.st r a hr ha).1,λx y hx hy e=>W.inj x y hx hy e,λq q1 q2 vs' us1 rs H2 bf eq0 eb1 Rv eb2 R2 k2=>?_⟩
  ·rw[sh _ _ (k1.tup _ _ et0)];unfold prF;rw[W.x0,W.y0];rfl
  have kk:=kS.trans k2
  have k3:Kp [] H1 (hideC H2 [n1,n2]):=by
   have ne:∀b v,H1 b=some v->b∉[n1,n2]:=λb v e mm=>by
    simp only[Il,Aj,W3]at mm
    rcases mm with rfl|rfl
    ·rw[hn1]at e;cases e
    ·rw[hn2]at e;cases e
   exact⟨λb v e mm=>by rw[jdw (ne b _ e)];exact kk.old b v e mm,λb xs e=>by rw[jdw (ne b _ e)];exact kk.tup b xs e,λb v e=>by rw[jdw (ne b _ e)];exact kk.dom b v e⟩
  have f1:H2 n1=some (FZ o1):=k2.old _ _ en1 Aj
  have f2:H2 n2=some (FZ o2):=k2.old _ _ en2 Aj
  have hd2:∀b v,H2 b=some v->(∀o,v≠FZ o)->hideC H2 [n1,n2] b=some v:=λb v e nn=>by
   rw[jdw (λmm=>by
    simp only[Il,Aj,W3]at mm
    rcases mm with rfl|rfl
    ·rw[f1]at e;exact nn o1 (A7 e).symm
    ·rw[f2]at e;exact nn o2 (A7 e).symm)]
   exact e
  have bi:=bf.inv W.n1 (λr a hr ha=>(W.st r a hr ha).1)
  exact k q q1 q2 vs' rs _ bf (jfy bi.nd bi.lt) (hd2 _ _ eq0 (λ_ z=>by cases z)) (hd2 _ _ eb1 (λ_ z=>by cases z)) (Paired.mapP Rv λ_ _ ⟨b,z1,z2⟩=>⟨b,z1,hd2 _ _ z2 (λ_ z=>by cases z)⟩) ((kA.mono (by simp)).trans (k1.trans (k3.mono (by simp)))) (tb1.kp k3 (by simp) (by simp))
end
local macro_rules
 | `(tactic| simp!)=>`(tactic| simp only [tSeq,tIfS,jdl,tOp,tVar,tC,tAsg,jc4,gSub,tRet,jdi,jdf,jdg,tAnd,tOr,tNot,jda,jdj,tB,jdd,rI0,rI,jb2,jb4,jb9,jca,jcn,jco,jcm,jcg,jb7,jb6,jb8,jb5,jck,jb1,jb0,jcb,jby,jci,jcz,jcj,jch,jcp,jc1,jcr,jcq,jcc,jcy,jb3,jcf,jcd,jce,Option.isSome_some,tBML,tCB,jde,tNil,tLst,tTup,jdn,tSl,jdk,jcw,jcs,iAny,jdb,jc5,jc7,jcv,jdc,tAug,ipI,jc2,jc9,jcu,jcx,jdh,jc8,hdl,jc0,jcl,tBM,jc3,Option.bind_some,Option.bind_none,Option.getD_some,L2.start,Ak,Au,List.length_cons,List.length_nil,List.cons_append,List.nil_append,Aq,At,List.replicate,List.getElem?_cons_zero,List.getElem?_cons_succ,List.set_cons_zero,List.set_cons_succ,Nat.reduceSub,Nat.reduceAdd,Nat.reduceLeDiff,Ap,V.int.injEq,V.bl.injEq,V.str.injEq,V.ref.injEq,HO.lst.injEq,HO.tup.injEq,Aw,A3,Ax,Is,Ii,jb,jct,jdm,jdp,jdq,A4,Az,Ao,Af,Ih,Ik,reduceIte,reduceCtorEq,jc6,tLam,jbz,jdx,jbz,jdr])
 | `(tactic| simp! [$ls,*])=>`(tactic| simp only [tSeq,tIfS,jdl,tOp,tVar,tC,tAsg,jc4,gSub,tRet,jdi,jdf,jdg,tAnd,tOr,tNot,jda,jdj,tB,jdd,rI0,rI,jb2,jb4,jb9,jca,jcn,jco,jcm,jcg,jb7,jb6,jb8,jb5,jck,jb1,jb0,jcb,jby,jci,jcz,jcj,jch,jcp,jc1,jcr,jcq,jcc,jcy,jb3,jcf,jcd,jce,Option.isSome_some,tBML,tCB,jde,tNil,tLst,tTup,jdn,tSl,jdk,jcw,jcs,iAny,jdb,jc5,jc7,jcv,jdc,tAug,ipI,jc2,jc9,jcu,jcx,jdh,jc8,hdl,jc0,jcl,tBM,jc3,Option.bind_some,Option.bind_none,Option.getD_some,L2.start,Ak,Au,List.length_cons,List.length_nil,List.cons_append,List.nil_append,Aq,At,List.replicate,List.getElem?_cons_zero,List.getElem?_cons_succ,List.set_cons_zero,List.set_cons_succ,Nat.reduceSub,Nat.reduceAdd,Nat.reduceLeDiff,Ap,V.int.injEq,V.bl.injEq,V.str.injEq,V.ref.injEq,HO.lst.injEq,HO.tup.injEq,Aw,A3,Ax,Is,Ii,jb,jct,jdm,jdp,jdq,A4,Az,Ao,Af,Ih,Ik,reduceIte,reduceCtorEq,jc6,tLam,jbz,jdx,jbz,jdr,$ls,*])
def cI(l:List Nat):List Int:=l.map λx:Nat=>(x:Int)
theorem jow(l:List Nat):(cI l).map V.int=l.map nV:=by unfold cI;rw[Oq];rfl
def jeo(H:Hp)(b:Addr):List Int:=match H b with
 |some (.tup xs)=>xs.map λv=>match v with|.int i=>i|_=>0
 |_=>[]
theorem je6{H:Hp}{b:Addr}{k:List Int}(e:H b=some (.tup (k.map V.int))):jeo H b=k:=by
 unfold jeo
 rw[e]
 show(k.map V.int).map _=k
 rw[Oq]
 exact Wz _
theorem jig{H:Hp}:∀{us:List V}{mv:List (List Nat)},RowsM H us mv->∃bs:List Addr,us=bs.map V.ref/\Paired (λb row=>H b=some (.tup (row.map nV))) bs mv
 |[],[],_=>⟨[],rfl,.nil⟩
 |_::us,row::mv,.cons ⟨a,e,h⟩ t=>by
  obtain⟨bs,e2,q⟩:=jig t
  exact⟨a::bs,by rw[e,e2];rfl,.cons h q⟩
def cdg(δ δ':Nat->Nat->Nat)(n':Nat)(r a:Nat):Nat:=δ (r / n') a*n'+δ' (r%n') a
theorem jfw{n' x y:Nat}(h:y<n'):(x*n'+y) / n'=x/\(x*n'+y)%n'=y:=by
 have:0<n':=by omega
 constructor
 ·rw[U7,Nat.mul_add_div this,Nat.div_eq_of_lt h,Nat.add_zero]
 ·rw[U7,Nat.mul_add_mod,Nat.mod_eq_of_lt h]
theorem jlc{n n' x y:Nat}(hx:x<n)(hy:y<n'):x*n'+y<n*n':=by
 have:(x+1)*n'<=n*n':=We _ hx
 rw[Nat.add_mul]at this
 omega
theorem jle{m:Mach}{N:Nat}(ok:Mach.Ok m N){r a:Nat}(hr:r<m.mv.length):dM (mvD m) r a=dl m r a:=by
 have e1:(mvD m).getD r []=(m.mv.getD r []).map Int.toNat:=by
  unfold mvD
  rw[Ag,A9,Ag,Ic hr]
  rfl
 unfold dM dl
 rw[e1,Ag,A9,Ag (l:=m.mv.getD r [])]
 cases(m.mv.getD r [])[a]? <;> rfl
section
variable{m m':Mach}{N N':Nat}
theorem jmh(a:Mach.Ok m N)(b:Mach.Ok m' N')(e:m.z=m'.z):WPr (mvD m) (mvD m') m.z.length (m.mv.length*m'.mv.length) (cdg (dl m) (dl m') m'.mv.length) (· / m'.mv.length) (·%m'.mv.length):=by
 have n1:=a.n1
 have n2:=b.n1
 have l1:(mvD m).length=m.mv.length:=Aa ..
 have l2:(mvD m').length=m'.mv.length:=Aa ..
 have lt:∀r,r<m.mv.length*m'.mv.length->r / m'.mv.length<m.mv.length/\r%m'.mv.length<m'.mv.length:=λr hr=>⟨Nat.div_lt_of_lt_mul (by rw[U7];exact hr),Nat.mod_lt _ (by omega)⟩
 refine⟨Nat.mul_pos n1 n2,Nat.zero_div _,Nat.zero_mod _,λr hr=>by rw[l1,l2];exact lt r hr,λr x hr hx=>?_,λx y hx hy h=>?_⟩
 ·obtain⟨p,q⟩:=lt r hr
  obtain⟨_,_,c1⟩:=a.cell p hx
  obtain⟨_,_,c2⟩:=b.cell q (e▸hx)
  obtain⟨d1,d2⟩:=jfw (x:=dl m (r / m'.mv.length) x) c2
  refine⟨jlc c1 c2,?_,?_⟩
  ·show cdg _ _ _ r x / _=_
   unfold cdg;rw[d1,jle a p]
  ·show cdg _ _ _ r x%_=_
   unfold cdg;rw[d2,jle b q]
 ·unfold prF at h
  injection h with h1 h2
  injection h2 with h2 _
  have h1:x / m'.mv.length=y / m'.mv.length:=h1
  have h2:x%m'.mv.length=y%m'.mv.length:=h2
  rw[<-Nat.div_add_mod x m'.mv.length,<-Nat.div_add_mod y m'.mv.length,h1,h2]
theorem jny(a:Mach.Ok m N)(b:Mach.Ok m' N')(e:m.z=m'.z):∀w,Ov m.z.length w->w.foldl (cdg (dl m) (dl m') m'.mv.length) 0=run (dl m) 0 w*m'.mv.length+run (dl m') 0 w:=by
 refine jhk (λ_=>by simp[run]) λw x ih ho=>?_
 have ow:Ov m.z.length w:=Ov.left ho
 have hx:=ho x (A2 _ (.head _))
 rw[U4,ih ow,jes,jes]
 have y2:=jej b b.n1 (w:=w) (e▸ow)
 obtain⟨d1,d2⟩:=jfw (x:=run (dl m) 0 w) y2
 show cdg _ _ _ _ x=dl m _ x*_+dl m' _ x
 unfold cdg
 rw[d1,d2]
theorem prs_of(a:Mach.Ok m N)(b:Mach.Ok m' N')(e:m.z=m'.z){rs:List Nat}(bf:Bf (cdg (dl m) (dl m') m'.mv.length) m.z.length 0 rs.length rs) :
  (rs.map λr=>cI (prF (· / m'.mv.length) (·%m'.mv.length) r)).Nodup/\∀x,x∈(rs.map λr=>cI (prF (· / m'.mv.length) (·%m'.mv.length) r))↔∃w,Ov m.z.length w/\x=kP (pr2 (dl m) (dl m') w):=by
 have W:=jmh a b e
 have bi:=bf.inv (n:=m.mv.length*m'.mv.length) W.n1 (λr x hr hx=>(W.st r x hr hx).1)
 have key:∀w,Ov m.z.length w->cI (prF (· / m'.mv.length) (·%m'.mv.length) (w.foldl (cdg (dl m) (dl m') m'.mv.length) 0))=kP (pr2 (dl m) (dl m') w):=λw hw=>by
  rw[jny a b e w hw]
  obtain⟨d1,d2⟩:=jfw (x:=run (dl m) 0 w) (jej b b.n1 (w:=w) (e▸hw))
  unfold prF cI kP pr2
  simp only[d1,d2,Ak,Au]
 refine⟨?_,λx=>?_⟩
 ·refine O5.mpr (bi.nd.imp_of_mem fun{x y} hx hy ne h=>ne (W.inj x y (bi.lt x hx) (bi.lt y hy) ?_))
  unfold cI at h
  exact List.map_inj_right (λ_ _ z=>Int.ofNat.inj z) |>.mp h
 ·rw[Ij]
  constructor
  ·rintro⟨r,hr,rfl⟩
   obtain⟨w,hw,rfl⟩:=bi.rc r hr
   exact⟨w,hw,key w hw⟩
  ·rintro⟨w,hw,rfl⟩
   refine⟨w.foldl (cdg (dl m) (dl m') m'.mv.length) 0,?_,key w hw⟩
   have:∀(w:List Nat)(r:Nat),(∀x∈w,x<m.z.length)->r∈rs->w.foldl (cdg (dl m) (dl m') m'.mv.length) r∈rs:=λw=>by
    induction w with
    |nil=>intro r _ h;exact h
    |cons c w ih =>
     intro r hw h
     exact ih _ (λb hb=>hw b (.tail _ hb)) (bi.cl r (by rw[Ux];exact h) c (hw c (.head _)))
   exact this w 0 hw (Ay bi.z)
theorem joq(a:Mach.Ok m N)(b:Mach.Ok m' N')(e:m.z=m'.z){r:Option (List Nat)}(h:Res (dl (jdu m m')) (yy (jdu m m')) m.z.length 0 m.mv.length r):Rs2 (dl m) (dl m') (yy m) (yy m') m.z.length r:=by
 have key:∀u,Ov m.z.length u->(yy (jdu m m') (run (dl (jdu m m')) 0 u)=yy m (run (dl m) 0 u))/\yy (jdu m m') (run (dl (jdu m m')) m.mv.length u)=yy m' (run (dl m') 0 u):=λu o=>by
  have o':Ov m'.z.length u:=e▸o
  have q:=jge a b u 0 b.n1 o'
  rw[Nat.add_zero]at q
  rw[jgd a u 0 a.n1 o,q,(jiw a (x:=0) (jej a a.n1 o)).2,(jix a b (x:=0) (jej b b.n1 o') (by have:=b.let4.lo;omega)).2]
  exact⟨rfl,rfl⟩
 cases r with
 |none=>intro w hw;rw[<-(key w hw).1,<-(key w hw).2];exact h w hw
 |some t =>
  obtain⟨h1,h2,h3⟩:=h
  refine⟨h1,by rw[<-(key t h1).1,<-(key t h1).2];exact h2,λw hw c=>by rw[<-(key w hw).1,<-(key w hw).2];exact h3 w hw c⟩
end
local macro_rules
 | `(tactic| simp!)=>`(tactic| simp only [tSeq,tIfS,jdl,tOp,tVar,tC,tAsg,jc4,gSub,tRet,jdi,jdf,jdg,tAnd,tOr,tNot,jda,jdj,tB,jdd,rI0,rI,jb2,jb4,jb9,jca,jcn,jco,jcm,jcg,jb7,jb6,jb8,jb5,jck,jb1,jb0,jcb,jby,jci,jcz,jcj,jch,jcp,jc1,jcr,jcq,jcc,jcy,jb3,jcf,jcd,jce,Option.isSome_some,tBML,tCB,jde,tNil,tLst,tTup,jdn,tSl,jdk,jcw,jcs,iAny,jdb,jc5,jc7,jcv,jdc,tAug,ipI,jc2,jc9,jcu,jcx,jdh,jc8,hdl,jc0,jcl,tBM,jc3,Option.bind_some,Option.bind_none,Option.getD_some,L2.start,Ak,Au,List.length_cons,List.length_nil,List.cons_append,List.nil_append,Aq,At,List.replicate,List.getElem?_cons_zero,List.getElem?_cons_succ,List.set_cons_zero,List.set_cons_succ,Nat.reduceSub,Nat.reduceAdd,Nat.reduceLeDiff,Ap,V.int.injEq,V.bl.injEq,V.str.injEq,V.ref.injEq,HO.lst.injEq,HO.tup.injEq,Aw,A3,Ax,Is,Ii,jb,jct,jdm,jdp,jdq,A4,Az,Ao,Af,Ih,Ik,reduceIte,reduceCtorEq,jc6,tLam,jbz,jdx,jbz,jdr])
 | `(tactic| simp! [$ls,*])=>`(tactic| simp only [tSeq,tIfS,jdl,tOp,tVar,tC,tAsg,jc4,gSub,tRet,jdi,jdf,jdg,tAnd,tOr,tNot,jda,jdj,tB,jdd,rI0,rI,jb2,jb4,jb9,jca,jcn,jco,jcm,jcg,jb7,jb6,jb8,jb5,jck,jb1,jb0,jcb,jby,jci,jcz,jcj,jch,jcp,jc1,jcr,jcq,jcc,jcy,jb3,jcf,jcd,jce,Option.isSome_some,tBML,tCB,jde,tNil,tLst,tTup,jdn,tSl,jdk,jcw,jcs,iAny,jdb,jc5,jc7,jcv,jdc,tAug,ipI,jc2,jc9,jcu,jcx,jdh,jc8,hdl,jc0,jcl,tBM,jc3,Option.bind_some,Option.bind_none,Option.getD_some,L2.start,Ak,Au,List.length_cons,List.length_nil,List.cons_append,List.nil_append,Aq,At,List.replicate,List.getElem?_cons_zero,List.getElem?_cons_succ,List.set_cons_zero,List.set_cons_succ,Nat.reduceSub,Nat.reduceAdd,Nat.reduceLeDiff,Ap,V.int.injEq,V.bl.injEq,V.str.injEq,V.ref.injEq,HO.lst.injEq,HO.tup.injEq,Aw,A3,Ax,Is,Ii,jb,jct,jdm,jdp,jdq,A4,Az,Ao,Af,Ih,Ik,reduceIte,reduceCtorEq,jc6,tLam,jbz,jdx,jbz,jdr,$ls,*])
structure TCm(mg:Str->Option Value)(fls fap fsd fwp:Addr):Prop where
 n_len:mg "len"=none
 n_sorted:mg "sorted"=none
 m4z:mg "look_same_letters"=some (.ref fls)
 m13z:mg "apart"=some (.ref fap)
 m17z:mg "side_by_side"=some (.ref fsd)
 m18z:mg "walked_pairs"=some (.ref fwp)
def RsV(H0 H:Hp)(q:Addr)(m:Mach)(r:Option (List Nat))(ks:List (List Int)):Prop:=match r with
 |some t=>t.length<=1000001/\H q=some (.tup [.str (Str.ofString "part"),.str (txt m t)])
 |Option.none=>∃(l:Addr)(bs:List Addr),H q=some (.tup [.str (Str.ofString "alike"),.ref l])/\H0 l=none/\H l=some (.lst (bs.map V.ref))/\bs.length<=1000/\Paired (λb k=>H b=some (.tup (k.map V.int))) bs ks
abbrev RCm(m m':Mach):=RC (dl m) (dl m') (yy m) (yy m') m.z.length
def spCp(Pt cO:Addr):Sp:=λvs H Q E=>∃(p p' a1 a2 b1 b2:Addr)(us us':List V)(m m':Mach)(N N':Nat),vs=[.ref p,.ref p']/\MA H m p a1 a2 us/\MA H m' p' b1 b2 us'/\Mach.Ok m N/\Mach.Ok m' N'/\N<=100/\N'<=100/\m.mv.length*m'.mv.length<=1000/\TabOk H Pt WQ /\
 (m.z=m'.z->∀(q:Addr)(H':Hp)(r:Option (List Nat))(ks:List (List Int)),RCm m m' r ks->RsV H H' q m r ks->Kp [Pt] H H'->TabOk H' Pt WQ->Q (.ref q) H') /\
 (m.z≠m'.z->∀H',Kp [] H H'->E (.ref cO) none H')
theorem jaz{H:Hp}{bs:List Addr}{ks:List (List Int)}(h:Paired (λb k=>H b=some (.tup (k.map V.int))) bs ks):bs.map (jeo H)=ks:=by
 induction h with
 |nil=>rfl
 |cons a _ ih=>rw[Ak,ih,je6 a]
theorem jak{H:Hp}:∀{bs:List Addr},(∀b∈bs,∃k:List Int,H b=some (.tup (k.map V.int)))->Paired (λb k=>H b=some (.tup (k.map V.int))) bs (bs.map (jeo H))
 |[],_=>.nil
 |b::bs,h=>by
  obtain⟨k,e⟩:=h b (.head _)
  exact .cons (by rw[je6 e];exact e) (jak λc hc=>h c (.tail _ hc))
theorem zx{H:Hp}{bs:List Addr}{ks:List (List Int)}(h:Paired (λb k=>H b=some (.tup (k.map V.int))) bs ks):∀b∈bs,∃k∈ks,H b=some (.tup (k.map V.int)):=by
 induction h with
 |nil=>intro b hb;cases hb
 |cons a _ ih =>
  intro c hc
  rcases Il.mp hc with rfl|hc
  ·exact⟨_,.head _,a⟩
  ·obtain⟨k,hk,e⟩:=ih c hc
   exact⟨k,.tail _ hk,e⟩
section
variable{P:Program}{w:World}{K:PySem.W.Frag}{mg:Str->Option Value}{base:Heap}
abbrev ze:Stmt:=top 15
theorem ja1:FnScope ["one","other","text"] ["one","other"] (jh ze):=⟨rfl,rfl,rfl,by decide +kernel,rfl,by decide +kernel,by decide +kernel⟩
theorem ok_compared{f fls fap fsd fwp Pt tdw cO:Addr}{fd fdl fda fds fdw:FuncData}{dfw:List Value}(F:Fun K "compared" "compared" ze f fd)(T:TCm mg fls fap fsd fwp)
  (F4z:Fun K "look_same_letters" "look_same_letters" kc fls fdl) (b4z:Binds K fdl ["one","other"] []) (G4z:FnOk P w K mg base (CXE P w) 1 fls fdl ["one","other"] (spLS cO))
  (F13z:Fun K "apart" "apart" z8 fap fda) (b13z:Binds K fda ["machine","one","other"] []) (G13z:FnOk P w K mg base CX0 3 fap fda ["machine","one","other"] jki)
  (F17z:Fun K "side_by_side" "side_by_side" yd fsd fds) (b17z:Binds K fds ["one","other"] []) (G17z:FnOk P w K mg base CX0 1 fsd fds ["one","other"] spSd)
  (F18z:FunD K "walked_pairs" "walked_pairs" yf fwp fdw tdw) (b18z:Binds K fdw ["one","other","most"] dfw) (h_walked_pairs:Vals [.non] dfw) (G18z:FnOk P w K mg base CX0 5 fwp fdw ["one","other","most"] (spWP Pt)):FnOk P w K mg base (CXE P w) 6 f fd ["one","other"] (spCp Pt cO):=by
 refine F.okE ja1 (λvs H Q E h=>?_) (λcdv A outer s H vs Q E hr h=>?_)
 ·obtain⟨p,p',a1,a2,b1,b2,us,us',m,m',N,N',rfl,_⟩:=h
  rfl
 ·obtain⟨p,p',a1,a2,b1,b2,us,us',m,m',N,N',rfl,M,M',ok1,ok2,n9,n9',nn,tb,k,kE⟩:=h
  have hu:=hr.units
  have hsz:sizeLine=16777216:=Iw
  have n1:=ok1.n1
  have z4:=ok1.let4.hi
  have nh:=ok1.nh
  have nh':=ok2.nh
  have yl:=ok1.yl
  have yl':=ok2.yl
  refine exQ (jg (yi (jm G4z (hr.mono (by decide)) rfl T.m4z F4z.kp b4z .nil (leaves_of.passes rfl) (ja (qpv 0) (ja (qpv 1) jc))))
  (jg (jk (i:=2) ja1.nd rfl (by ac_rfl) (jm G13z (hr.mono (by decide)) rfl T.m13z F13z.kp b13z .nil jy (ja (jm G17z (hr.mono (by decide)) rfl T.m17z F17z.kp b17z .nil jy (ja (qpv 0) (ja (qpv 1) jc))) (ja je (ja (jn j4 (by rfl) T.n_len ke (ja (ji ix_U (qpv 0) je (λ_ _=>rfl)) jc)) jc)))))
  (jg (ki (jr op_notN (qpv 2) jba (jz _)) (jj (jx (j9 (ja yk (ja (qpv 2) jc))))) j8)
  (jj (jx (j9 (ja yk (ja (jn jag (by rfl) T.n_sorted jav (ja (ji ix_U (jm G18z (hr.mono (by decide)) rfl T.m18z F18z.kp b18z h_walked_pairs jy (ja (qpv 0) (ja (qpv 1) jc))) je (λ_ _=>rfl)) jc)) jc)))))))) ?_
  simp!
  refine⟨p,p',m.z,m'.z,_,_,_,_,rfl,M.t0,M'.t0,λez=>?_,λez=>kE ez⟩
  have k:=k ez
  dsimp only
  have z4':=ok2.let4.hi
  refine⟨p,p',a1,a2,b1,b2,m,m',us,us',rfl,M,M',by omega,by omega,λr hr=>?_,by omega,by omega,λr c1 c2 ws H1 ms k1=>?_⟩
  ·have:=(ok2.row r hr).1
   omega
  have M1:=M.kp k1
  simp! [M1.t0,M1.t1]
  have ul:us.length=m.mv.length:=M.rl
  have bl:(jdu m m').mv.length=m.mv.length+m'.mv.length:=by simp[jdu]
  have bok:=jk9 ok1 ok2 ez.symm
  have n1':=ok2.n1
  refine⟨r,jdu m m',0,m.mv.length,_,by rw[ul];rfl,⟨c1,c2,ws,ms⟩,bok,by omega,by omega,by omega,λrr H2 res hle k2=>?_⟩
  have rs:=joq ok1 ok2 ez res
  have kk:=k1.trans k2
  cases rr with
  |some t =>
   unfold resV
   dsimp only
   rw[Am (by simp)]
   refine⟨by omega,λq hq=>?_⟩
   have k4:=(Kp.refl [] H2).new (o:=.tup [.str (Str.ofString "part"),.str (txt (jdu m m') t)]) hq
   exact k q _ (some t) [] ⟨rs,λz=>nomatch z⟩ ⟨hle t rfl,jb⟩ ((kk.trans k4).mono (by simp)) (tb.kp (kk.trans k4) (by simp) (by simp))
  |none =>
   unfold resV
   dsimp only
   rw[Ah (by simp)]
   have W:=jmh ok1 ok2 ez
   refine⟨p,p',a1,a2,b1,b2,m.z,us,us',mvD m,mvD m',m.z.length,m.ye,m'.ye,_,_,_,_,rfl,(M.kp kk).mh ok1 (by omega),?_,rfl,nn,W,tb.kp kk (by simp) (by simp),λq q1 q2 vs' rs' H3 bf rl e0 e1 Rv k3 tb3=>?_⟩
   ·have:=(M'.kp kk).mh ok2 (by omega)
    rw[<-ez]at this
    exact this
   dsimp only
   rw[jcg,e0]
   refine⟨_,rfl,.ref q1,rfl,?_⟩
   obtain⟨bs,rfl,pb⟩:=jig Rv
   have bl':=Ou pb
   rw[Aa]at bl'
   have pk:Paired (λb k=>H3 b=some (.tup (k.map V.int))) bs (rs'.map λr=>cI (prF (· / m'.mv.length) (·%m'.mv.length) r)):=by
    have:∀{bs:List Addr}{rs':List Nat},Paired (λb row=>H3 b=some (.tup (row.map nV))) bs (rs'.map (prF (· / m'.mv.length) (·%m'.mv.length)))->Paired (λb k=>H3 b=some (.tup (k.map V.int))) bs (rs'.map λr=>cI (prF (· / m'.mv.length) (·%m'.mv.length) r)):=fun{bs}=>by
     induction bs with
     |nil=>intro rs' h;cases rs' with|nil=>exact .nil|cons _ _=>cases h
     |cons b bs ih =>
      intro rs' h
      cases rs' with
      |nil=>cases h
      |cons r rs' =>
       cases h with
       |cons h1 h2=>exact .cons (by rw[jow];exact h1) (ih h2)
    exact this pb
   have ek:=jaz pk
   obtain⟨ndk,memk⟩:=prs_of ok1 ok2 ez bf
   refine⟨q1,bs,jeo H3,rfl,e1,λb hb=>?_,by omega,λpp bs' hpp hp so=>⟨by omega,λq' hq'=>?_⟩⟩
   ·obtain⟨k0,hk0,e⟩:=zx pk b hb
    rw[je6 e]
    refine⟨e,?_⟩
    obtain⟨r0,_,rfl⟩:=Ij.mp hk0
    unfold prF cI;simp
   ·have kA:=(Kp.refl [] H3).new (o:=.lst (bs'.map V.ref)) hpp
    have kB:=kA.new (o:=.tup [.str (Str.ofString "alike"),.ref pp]) hq'
    have kZ:Kp [Pt] H _:=(kk.mono (by simp)).trans (k3.trans (kB.mono (by simp)))
    have pl:=hp.length_eq
    have h0:H pp=none:=((kk.mono (by simp)).trans k3).free hpp
    have el:(upd (upd H3 pp (.lst (bs'.map V.ref))) q' (.tup [.str (Str.ofString "alike"),.ref pp])) pp=some (.lst (bs'.map V.ref)):=by
     rw[jd (jf jb hq'),jb]
    have pm:(bs'.map (jeo H3)).Perm (rs'.map λr=>cI (prF (· / m'.mv.length) (·%m'.mv.length) r)):=by rw[<-ek];exact hp.map _
    refine k q' _ Option.none (bs'.map (jeo H3)) ⟨rs,λ_=>⟨so,pm.nodup_iff.mpr ndk,λx=>pm.mem_iff.trans (memk x)⟩⟩ ⟨pp,bs',jb,h0,el,by omega,?_⟩ kZ (tb3.kp kB (by simp) (by simp))
    exact Paired.mapP (jak λb hb=>let⟨k0,_,e⟩:=zx pk b (hp.mem_iff.mp hb);⟨k0,e⟩) λ_ _ e=>kB.tup _ _ e
abbrev y3:Stmt:=top 19
theorem sc_pairs_hold:FnScope ["one","other","pairs","known"] ["one","other","pairs"] (jh y3):=⟨rfl,rfl,rfl,by decide +kernel,rfl,by decide +kernel,by decide +kernel⟩
def spPH(cO:Addr):Sp:=λvs H Q E=>∃(p p':Addr)(z z':Str)(x1 x2 y1 y2 v:V),vs=[.ref p,.ref p',v]/\H p=some (.tup [.str z,x1,x2])/\H p'=some (.tup [.str z',y1,y2])/\z≠z'/\∀H',Kp [] H H'->E (.ref cO) none H'
structure TPh(mg:Str->Option Value)(fls:Addr):Prop where
 m4z:mg "look_same_letters"=some (.ref fls)
theorem ok_pairs_hold{f fls cO:Addr}{fd fdl:FuncData}(F:Fun K "pairs_hold" "pairs_hold" y3 f fd)(T:TPh mg fls)
  (F4z:Fun K "look_same_letters" "look_same_letters" kc fls fdl) (b4z:Binds K fdl ["one","other"] []) (G4z:FnOk P w K mg base (CXE P w) 1 fls fdl ["one","other"] (spLS cO)):FnOk P w K mg base (CXE P w) 2 f fd ["one","other","pairs"] (spPH cO):=by
 refine F.okE sc_pairs_hold (λvs H Q E h=>?_) (λcdv A outer s H vs Q E hr h=>?_)
 ·obtain⟨p,p',z,z',x1,x2,y1,y2,v,rfl,_⟩:=h
  rfl
 ·obtain⟨p,p',z,z',x1,x2,y1,y2,v,rfl,hp,hp',ne,k⟩:=h
  refine exQ (jg (yi (jm G4z (hr.mono (by decide)) rfl T.m4z F4z.kp b4z .nil (leaves_of.passes rfl) (ja (qpv 0) (ja (qpv 1) jc)))) ⟨pss_never⟩) ?_
  simp!
  exact⟨p,p',z,z',x1,x2,y1,y2,rfl,hp,hp',λe=>absurd e ne,λ_=>k⟩
end
local macro_rules
 | `(tactic| simp!)=>`(tactic| simp only [tSeq,tIfS,jdl,tOp,tVar,tC,tAsg,jc4,gSub,tRet,jdi,jdf,jdg,tAnd,tOr,tNot,jda,jdj,tB,jdd,rI0,rI,jb2,jb4,jb9,jca,jcn,jco,jcm,jcg,jb7,jb6,jb8,jb5,jck,jb1,jb0,jcb,jby,jci,jcz,jcj,jch,jcp,jc1,jcr,jcq,jcc,jcy,jb3,jcf,jcd,jce,Option.isSome_some,tBML,tCB,jde,tNil,tLst,tTup,jdn,tSl,jdk,jcw,jcs,iAny,jdb,jc5,jc7,jcv,jdc,tAug,ipI,jc2,jc9,jcu,jcx,jdh,jc8,hdl,jc0,jcl,tBM,jc3,Option.bind_some,Option.bind_none,Option.getD_some,L2.start,Ak,Au,List.length_cons,List.length_nil,List.cons_append,List.nil_append,Aq,At,List.replicate,List.getElem?_cons_zero,List.getElem?_cons_succ,List.set_cons_zero,List.set_cons_succ,Nat.reduceSub,Nat.reduceAdd,Nat.reduceLeDiff,Ap,V.int.injEq,V.bl.injEq,V.str.injEq,V.ref.injEq,HO.lst.injEq,HO.tup.injEq,Aw,A3,Ax,Is,Ii,jb,jct,jdm,jdp,jdq,A4,Az,Ao,Af,Ih,Ik,reduceIte,reduceCtorEq,jc6,tLam,jbz,jdx,jbz,jdr])
 | `(tactic| simp! [$ls,*])=>`(tactic| simp only [tSeq,tIfS,jdl,tOp,tVar,tC,tAsg,jc4,gSub,tRet,jdi,jdf,jdg,tAnd,tOr,tNot,jda,jdj,tB,jdd,rI0,rI,jb2,jb4,jb9,jca,jcn,jco,jcm,jcg,jb7,jb6,jb8,jb5,jck,jb1,jb0,jcb,jby,jci,jcz,jcj,jch,jcp,jc1,jcr,jcq,jcc,jcy,jb3,jcf,jcd,jce,Option.isSome_some,tBML,tCB,jde,tNil,tLst,tTup,jdn,tSl,jdk,jcw,jcs,iAny,jdb,jc5,jc7,jcv,jdc,tAug,ipI,jc2,jc9,jcu,jcx,jdh,jc8,hdl,jc0,jcl,tBM,jc3,Option.bind_some,Option.bind_none,Option.getD_some,L2.start,Ak,Au,List.length_cons,List.length_nil,List.cons_append,List.nil_append,Aq,At,List.replicate,List.getElem?_cons_zero,List.getElem?_cons_succ,List.set_cons_zero,List.set_cons_succ,Nat.reduceSub,Nat.reduceAdd,Nat.reduceLeDiff,Ap,V.int.injEq,V.bl.injEq,V.str.injEq,V.ref.injEq,HO.lst.injEq,HO.tup.injEq,Aw,A3,Ax,Is,Ii,jb,jct,jdm,jdp,jdq,A4,Az,Ao,Af,Ih,Ik,reduceIte,reduceCtorEq,jc6,tLam,jbz,jdx,jbz,jdr,$ls,*])
def kK(p:Nat×Nat):List L2.Key:=[.inl (p.1:Int),.inl (p.2:Int)]
theorem jln{p q:Nat×Nat}(h:kK p=kK q):p=q:=by
 unfold kK at h
 simp only[At,Sum.inl.injEq,Ii]at h
 exact Prod.ext (by omega) (by omega)
structure TxS(m m':Mach)(Q:List (List Nat))(kvs:List (List L2.Key×V)):Prop where
 at_:∀u∈Q,valV kvs (kK (pr2 (dl m) (dl m') u))=some (.str (txt m u))
 no:∀p,p∉Q.map (pr2 (dl m) (dl m'))->valV kvs (kK p)=none
 kl:kvs.length<=Q.length
theorem TxS.new{m m':Mach}{Q:List (List Nat)}{kvs:List (List L2.Key×V)}(h:TxS m m' Q kvs){u:List Nat}(hn:pr2 (dl m) (dl m') u∉Q.map (pr2 (dl m) (dl m'))):TxS m m' (Q++[u]) (putK kvs (kK (pr2 (dl m) (dl m') u)) (.str (txt m u))):=by
 refine⟨λv hv=>?_,λp hp=>?_,?_⟩
 ·rw[jgx]
  rcases A0.mp hv with hv|hv
  ·have e:kK (pr2 (dl m) (dl m') v)≠kK (pr2 (dl m) (dl m') u):=λz=>hn (by rw[<-jln z];exact Ij.mpr ⟨v,hv,rfl⟩)
   rw[Ah e,h.at_ v hv]
  ·rw[Ai.mp hv,Am rfl]
 ·rw[I0]at hp
  rw[jgx,Ah (λz=>hp (A2 _ (by simp[jln z]))),h.no p λz=>hp (Im _ z)]
 ·have:=jev kvs (kK (pr2 (dl m) (dl m') u)) (.str (txt m u))
  have:=h.kl
  rw[Ae,List.length_cons,List.length_nil]
  omega
theorem jmf{Q:List (List Nat)}{f:List Nat->Nat×Nat}{n n':Nat}(nd:(Q.map f).Nodup)(h:∀u∈Q,(f u).1<n/\(f u).2<n'):Q.length<=n*n':=by
 have:(Q.map λu=>(f u).1*n'+(f u).2).length<=n*n':=by
  have key:∀x y,x∈Q->y∈Q->(f x).1*n'+(f x).2=(f y).1*n'+(f y).2->f x=f y:=λx y hx hy e=>by
   obtain⟨d1,d2⟩:=jfw (x:=(f x).1) (h x hx).2
   obtain⟨d3,d4⟩:=jfw (x:=(f y).1) (h y hy).2
   rw[e]at d1 d2
   exact Prod.ext (d1.symm.trans d3) (d2.symm.trans d4)
  refine jfy (O5.mpr ((O5.mp nd).imp_of_mem λhx hy ne e=>ne (key _ _ hx hy e))) λr hr=>?_
  obtain⟨u,hu,rfl⟩:=Ij.mp hr
  exact jlc (h u hu).1 (h u hu).2
 simpa using this
theorem ja5{α β:Type}{R:α->β->Prop}:∀{xs:List α}{ys:List β}{i:Nat}{y:β},Paired R xs ys->ys[i]?=some y->∃x,xs[i]?=some x/\R x y
 |_,_,i,y,.nil,h=>by simp at h
 |_,_,0,y,.cons a _,h=>by simp at h;subst h;exact⟨_,rfl,a⟩
 |_,_,i+1,y,.cons _ r,h=>by simp at h;simpa using ja5 r h
theorem jkc{α β γ:Type}{R:α->γ->Prop}{f:β->γ}:∀{xs:List α}{ys:List β},Paired (λx y=>R x (f y)) xs ys->Paired R xs (ys.map f)
 |_,_,.nil=>.nil
 |_,_,.cons a r=>.cons a (jkc r)
theorem jar{α β:Type}{R:α->β->Prop}:∀{xs:List α}{ys:List β}{i:Nat}{x:α}{y:β},Paired R xs ys->xs[i]?=some x->ys[i]?=some y->R x y
 |_,_,i,_,_,.nil,h,_=>by simp at h
 |_,_,0,_,_,.cons a _,h,h'=>by simp at h h';subst h h';exact a
 |_,_,i+1,_,_,.cons _ r,h,h'=>by simp at h h';exact jar r h h'
theorem jan{α β:Type}{R:α->β->Prop}{x:α}{y:β}(h:R x y):∀{xs:List α}{ys:List β},Paired R xs ys->Paired R (xs++[x]) (ys++[y])
 |_,_,.nil=>.cons h .nil
 |_,_,.cons a r=>.cons a (jan h r)
structure TPr(mg:Str->Option Value):Prop where
 n_len:mg "len"=none
 n_sorted:mg "sorted"=none
 n_enumerate:mg "enumerate"=none
def spPr:Sp:=λvs H Q _=>∃(p p' a1 a2 b1 b2:Addr)(us us':List V)(m m':Mach)(N N':Nat),vs=[.ref p,.ref p']/\MA H m p a1 a2 us/\MA H m' p' b1 b2 us'/\Mach.Ok m N/\Mach.Ok m' N'/\N<=100/\N'<=100/\m.mv.length*m'.mv.length<=1000/\m.z=m'.z /\
 ∀(q:Addr)(H':Hp)(r:Option (List Nat))(ks:List (List Int)),RCm m m' r ks->(∀t,r=some t->t.length<=1000)->RsV H H' q m r ks->Kp [] H H'->Q (.ref q) H'
section
variable{P:Program}{w:World}{K:PySem.W.Frag}{mg:Str->Option Value}{base:Heap}
abbrev yt:Stmt:=top 26
theorem ko:FnScope ["_law_one","_law_other_here","_law_texts","_law_order","_law_at","_law_here","_law_there","_law_k","_law_letter","_law_goal"] ["_law_one","_law_other_here"] (jh yt):=⟨rfl,rfl,rfl,by decide +kernel,rfl,by decide +kernel,by decide +kernel⟩
theorem ok__law_pairs{f:Addr}{fd:FuncData}(F:Fun K "_law_pairs" "_law_pairs" yt f fd)(T:TPr mg):FnOk P w K mg base CX0 1 f fd ["_law_one","_law_other_here"] spPr:=by
 refine F.ok ko (λvs H Q E h=>?_) (λcdv A outer s H vs Q E hr h=>?_)
 ·obtain⟨p,p',a1,a2,b1,b2,us,us',m,m',N,N',rfl,_⟩:=h
  rfl
 ·obtain⟨p,p',a1,a2,b1,b2,us,us',m,m',N,N',rfl,M,M',ok1,ok2,n9,n9',nn,ez,k⟩:=h
  have hu:=hr.units
  have hsz:sizeLine=16777216:=Iw
  have hu1:(A.deeper (PyProof.Rows.envOfC (Str.ofString "_law_pairs") (jh yt) s.heap.objs.size f cdv)).units+1<cLine:=by omega
  have zl:=ok1.let4.lo
  have z4:=ok1.let4.hi
  refine exQ (jg (jk (i:=2) ko.nd rfl (by ac_rfl) (jbg hu1 (j9 (ja je (ja je jc))) yk))
  (jg (jk (i:=3) ko.nd rfl (by ac_rfl) (ya (ja (j9 (ja je (ja je jc))) jc)))
  (jg (jk (i:=4) ko.nd rfl (by ac_rfl) je)
  (jg (jal Od (jr ja4 (qpv 4) (jn j4 (by rfl) T.n_len ke (ja (qpv 3) jc)) (jz _)) (jg (zq (ji ix_U (qpv 3) (qpv 4) (λ_ _=>rfl)) (jaf (n:=2) rfl (ku (jv (i:=5) ko.nd rfl (by ac_rfl)) (ku (jv (i:=6) ko.nd rfl (by ac_rfl)) z0)) (K:=K) rfl))
  (ym (ki (jr (zw hu) (ji ix_U (ji ix_U (qpv 0) je (λ_ _=>rfl)) (qpv 5) (λ_ _=>rfl)) (ji ix_U (ji ix_U (qpv 1) je (λ_ _=>rfl)) (qpv 6) (λ_ _=>rfl)) (jz _)) (jj (jx (j9 (ja yk (ja (ja3 hu1 (qpv 2) (ji ix_U (qpv 3) (qpv 4) (λ_ _=>rfl)) (λ_ _=>rfl)) jc))))) j8)
  (jg (zb Od rfl (jau rfl T.n_enumerate (ja (ji ix_U (qpv 0) je (λ_ _=>rfl)) jc)) (jaf (n:=2) rfl (ku (jv (i:=7) ko.nd rfl (by ac_rfl)) (ku (jv (i:=8) ko.nd rfl (by ac_rfl)) z0)) (K:=K) rfl) (jg (jk (i:=9) ko.nd rfl (by ac_rfl) (j9 (ja (ji ix_U (ji ix_U (ji ix_U (qpv 0) je (λ_ _=>rfl)) (qpv 5) (λ_ _=>rfl)) (qpv 7) (λ_ _=>rfl)) (ja (ji ix_U (ji ix_U (ji ix_U (qpv 1) je (λ_ _=>rfl)) (qpv 6) (λ_ _=>rfl)) (qpv 7) (λ_ _=>rfl)) jc))))
  (jj (ki (jbu (ja6 hu1 (qpv 9) (qpv 2)) (by with_unfolding_all rfl)) (jg (jbm hu1 (qpv 2) (qpv 9) (jo kh (ja3 hu1 (qpv 2) (ji ix_U (qpv 3) (qpv 4) (λ_ _=>rfl)) (λ_ _=>rfl)) (qpv 8)) rfl)
  (jj (yi (yv Iu Iv yb (qpv 3) (ja (qpv 9) jc) jd3)))) j8))))
  (jj (jk (i:=4) ko.nd rfl (by ac_rfl) (jo kh (qpv 4) je)))))))
  (jj (jx (j9 (ja yk (ja (jn jag (by rfl) T.n_sorted jav (ja (qpv 3) jc)) jc))))))))) ?_
  simp!
  intro pt hpt
  refine⟨by omega,λt0 ht0=>?_⟩
  have npt:pt≠t0:=jf jb ht0
  refine⟨[],by rw[jd npt,jb],kK (0,0),rfl,by show 0<sizeLine;omega,by omega,λt1 ht1=>⟨by omega,λpo hpo=>?_⟩⟩
  have k0:Kp [] H (upd (upd (upd H pt (.dT [])) t0 (.tup [.int 0,.int 0])) pt (.dT (putK [] (kK (0,0)) (.str (Str.ofString ""))))):=jfl (((Kp.refl [] H).new hpt).new ht0) (by rw[jd npt,jb]) (.inr hpt)
  have ept:(upd (upd (upd H pt (.dT [])) t0 (.tup [.int 0,.int 0])) pt (.dT (putK [] (kK (0,0)) (.str (Str.ofString ""))))) pt=some (.dT (putK [] (kK (0,0)) (.str (Str.ofString "")))):=jb
  have x0:TxS m m' [[]] (putK [] (kK (0,0)) (.str (Str.ofString ""))):=TxS.new (Q:=[]) (kvs:=[]) (u:=[]) ⟨λ_ h=>(Aj h).elim,λ_ _=>rfl,Al _⟩ (by simp)
  generalize putK [] (kK (0,0)) (.str (Str.ofString ""))=kv0 at ht1 hpo k0 ept x0⊢
  generalize upd (upd (upd H pt (.dT [])) t0 (.tup [.int 0,.int 0])) pt (.dT kv0)=H1 at ht1 hpo k0 ept⊢
  have k1:=(k0.new ht1 (o:=.tup [.int 0,.int 0])).new hpo (o:=.lst [.ref t1])
  have n1p:pt≠t1:=jf ept ht1
  have n1o:pt≠po:=jf (by rw[jd n1p];exact ept) hpo
  have hpo0:H po=none:=(k0.new ht1 (o:=.tup [.int 0,.int 0])).free hpo
  obtain⟨W0,hW0⟩:∃W0:Nat->L2.St->Hp->Prop,∀μ σ H',W0 μ σ H'↔(∃(Q:List (List Nat))(kvs:List (List L2.Key×V))(bs:List Addr)(j:Nat)(v5 v6 v7 v8 v9:Option V),σ=[some (.ref p),some (.ref p'),some (.ref pt),some (.ref po),some (.int (j:Int)),v5,v6,v7,v8,v9]/\Wk (dl m) (dl m') m.z.length Q j 0/\j<=Q.length/\(∀(i:Nat)(v:List Nat),i<j->Q[i]?=some v->yy m (run (dl m) 0 v)=yy m' (run (dl m') 0 v))/\TxS m m' Q kvs/\H' pt=some (.dT kvs)/\H' po=some (.lst (bs.map V.ref))/\Paired (λb u=>H' b=some (.tup ((kP (pr2 (dl m) (dl m') u)).map V.int))) bs Q/\Kp [] H H'/\μ=1001-j):=⟨_,λ_ _ _=>O7⟩
  refine⟨W0,⟨_,(hW0 _ _ _).mpr ⟨[[]],kv0,[t1],0,none,none,none,none,none,rfl,Wk.start,by simp,λi v h=>absurd h (Yd _),x0,by rw[jd n1o,jd n1p];exact ept,jb,.cons ?_ .nil,k1,rfl⟩⟩,?_⟩
  ·rw[jd (jf jb hpo),jb];rfl
  intro μ σ H2 hW
  obtain⟨Q',kvs,bs,j,v5,v6,v7,v8,v9,rfl,W,jl,eq,x,e1,e2,pb,kp,rfl⟩:=(hW0 _ _ _).mp hW
  clear hW
  have bl:bs.length=Q'.length:=Ou pb
  have inR:∀u∈Q',(pr2 (dl m) (dl m') u).1<m.mv.length/\(pr2 (dl m) (dl m') u).2<m'.mv.length:=λu hu=>⟨jej ok1 ok1.n1 (W.ov u hu),jej ok2 ok2.n1 (ez▸W.ov u hu)⟩
  have ql:Q'.length<=1000:=Io (jmf W.nd inR) nn
  simp! [e2]
  rw[Aa,bl]
  by_cases c:j<Q'.length
  ·rw[Am (by simpa using c)]
   have eu:Q'[j]?=some (Q'[j]):=Ic c
   generalize Q'[j]=u at eu
   obtain⟨b,hb,hbt⟩:=ja5 pb eu
   have uQ:=Ay eu
   have uo:=W.ov u uQ
   obtain⟨p1,p2⟩:=inR u uQ
   replace p1:run (dl m) 0 u<m.mv.length:=p1
   replace p2:run (dl m') 0 u<m'.mv.length:=p2
   refine⟨_,λ_ _ h=>h,.ref b,jdv (by rw[A9,hb];rfl),b,_,rfl,SqT.of hbt,rfl,?_⟩
   have M2:=M.kp kp
   have M2':=M'.kp kp
   obtain⟨X,hX⟩:∃X:L2.St->Hp->Prop,∀σ' H',X σ' H'↔(σ'=[some (.ref p),some (.ref p'),some (.ref pt),some (.ref po),some (.int (j:Int)),some (.int ((run (dl m) 0 u:Nat):Int)),some (.int ((run (dl m') 0 u:Nat):Int)),v7,v8,v9]/\H2=H'/\yy m (run (dl m) 0 u)=yy m' (run (dl m') 0 u)):=⟨_,λ_ _=>O7⟩
   have ul:u.length<=1000:=Io (W.hl j u eu) (by omega)
   refine⟨_,_,rfl,⟨_,_,rfl,rfl,X,?_,λσ' H' hJ=>?_⟩⟩
   ·simp! [M2.t0,M2.t2,M2'.t0,M2'.t2]
    refine⟨_,je5 ok1 p1,_,je5 ok2 p2,?_⟩
    simp! [e2]
    refine ite2 (λhne=>?_) (λheq=>(hX _ _).mpr ⟨rfl,rfl,by have:=heq;unfold pr2 at this;simpa using this⟩)
    have dg:DGet H2 pt (.ref b) (some (.str (txt m u))):=by
     rw[<-x.at_ u uQ]
     exact DGet.t (k:=kK (pr2 (dl m) (dl m') u)) e1 hbt
    refine⟨.ref b,jdv (by rw[A9,hb];rfl),_,dg,by omega,λq hq=>?_⟩
    have kB:=(Kp.refl [] H2).new (o:=.tup [.str (Str.ofString "part"),.str (txt m u)]) hq
    refine k q _ (some u) [] ⟨W.part zl eu eq ?_,λz=>by cases z⟩ (λt z=>by cases z;exact ul) ⟨by omega,jb⟩ (kp.trans kB)
    unfold pr2 at hne
    simpa using hne
   ·obtain⟨rfl,rfl,ey⟩:=(hX _ _).mp hJ
    clear hJ hX
    simp! [M2.t0]
    obtain⟨W1,hW1⟩:∃W1:Nat->L2.St->Hp->Prop,∀a σ H',W1 a σ H'↔(∃(Q:List (List Nat))(kvs:List (List L2.Key×V))(bs:List Addr)(v7 v8 v9:Option V),σ=[some (.ref p),some (.ref p'),some (.ref pt),some (.ref po),some (.int (j:Int)),some (.int ((run (dl m) 0 u:Nat):Int)),some (.int ((run (dl m') 0 u:Nat):Int)),v7,v8,v9]/\Wk (dl m) (dl m') m.z.length Q j a/\Q[j]?=some u/\(∀(i:Nat)(v:List Nat),i<j->Q[i]?=some v->yy m (run (dl m) 0 v)=yy m' (run (dl m') 0 v))/\TxS m m' Q kvs/\H' pt=some (.dT kvs)/\H' po=some (.lst (bs.map V.ref))/\bs[j]?=some b/\Paired (λb u=>H' b=some (.tup ((kP (pr2 (dl m) (dl m') u)).map V.int))) bs Q/\Kp [] H H'):=⟨_,λ_ _ _=>O7⟩
    have npo:pt≠po:=n1o
    refine jlu W1 ((hW1 _ _ _).mpr ⟨Q',kvs,bs,v7,v8,v9,rfl,W,eu,eq,x,e1,e2,hb,pb,kp⟩) ?_ ?_
    ·intro a σ H3 Tt ha hW hTt
     obtain⟨Q',kvs,bs,v7,v8,v9,rfl,W,eu,eq,x,e1,e2,hb,pb,kp⟩:=(hW1 _ _ _).mp hW
     clear hW
     refine⟨Tt,jfh m.z a,rfl,SqT.of jb,rfl,?_⟩
     have kT:Kp [] H3 (upd H3 Tt (.tup (jfh m.z a))):=(Kp.refl [] H3).new hTt
     have kp:=kp.trans kT
     have e1:=kT.old _ _ e1 Aj
     have e2:=kT.old _ _ e2 Aj
     have pb:=Paired.mapP pb λ_ _ e=>kT.tup _ _ e
     generalize upd H3 Tt (.tup (jfh m.z a))=H4 at kT kp e1 e2 pb⊢
     have M4:=M.kp kp
     have M4':=M'.kp kp
     obtain⟨r1,er1,hr1⟩:=M4.rw _ p1
     obtain⟨r2,er2,hr2⟩:=M4'.rw _ p2
     have ha':a<m'.z.length:=ez▸ha
     have bl:bs.length=Q'.length:=Ou pb
     have uQ:=Ay eu
     have inR:∀u∈Q',(pr2 (dl m) (dl m') u).1<m.mv.length/\(pr2 (dl m) (dl m') u).2<m'.mv.length:=λu hu=>⟨jej ok1 ok1.n1 (W.ov u hu),jej ok2 ok2.n1 (ez▸W.ov u hu)⟩
     have ql:Q'.length<=1000:=Io (jmf W.nd inR) nn
     refine⟨_,_,rfl,⟨_,_,rfl,rfl,?_⟩⟩
     simp! [M4.t0,M4.t1]
     refine⟨_,jdv er1,?_⟩
     simp! [hr1,jg3 ok1 p1 ha,M4'.t0,M4'.t1]
     refine⟨_,jdv er2,?_⟩
     simp! [hr2,jg3 ok2 p2 ha']
     refine⟨by omega,λg hg=>?_⟩
     have eg:pr2 (dl m) (dl m') (u++[a])=(dl m (run (dl m) 0 u) a,dl m' (run (dl m') 0 u) a):=jgs u a
     have kg:Kp [] H4 (upd H4 g (.tup [.int ((dl m (run (dl m) 0 u) a:Nat):Int),.int ((dl m' (run (dl m') 0 u) a:Nat):Int)])):=(Kp.refl [] H4).new hg
     have hgt:upd H4 g (.tup [.int ((dl m (run (dl m) 0 u) a:Nat):Int),.int ((dl m' (run (dl m') 0 u) a:Nat):Int)]) g=some (.tup ((kK (pr2 (dl m) (dl m') (u++[a]))).map kV)):=by rw[jb,eg];rfl
     have kp:=kp.trans kg
     have e1:=kg.old _ _ e1 Aj
     have e2:=kg.old _ _ e2 Aj
     have pb:=Paired.mapP pb λ_ _ e=>kg.tup _ _ e
     have kl:=x.kl
     generalize upd H4 g (.tup [.int ((dl m (run (dl m) 0 u) a:Nat):Int),.int ((dl m' (run (dl m') 0 u) a:Nat):Int)])=H5 at kg hgt kp e1 e2 pb⊢
     refine⟨_,DGet.t e1 hgt,?_⟩
     by_cases c:pr2 (dl m) (dl m') (u++[a])∈Q'.map (pr2 (dl m) (dl m'))
     ·obtain⟨t,ht,et⟩:=Ij.mp c
      rw[<-et,x.at_ t ht]
      simp only[Option.isSome_some,A4,Af,Ih]
      exact(hW1 _ _ _).mpr ⟨Q',kvs,bs,_,_,_,rfl,W.skip eu ha c,eu,eq,x,e1,e2,hb,pb,kp⟩
     ·rw[x.no _ c]
      simp only[Option.isSome_none,Az,Ik,e2]
      have hbt5:=jar pb hb eu
      have dg:DGet H5 pt (.ref b) (some (.str (txt m u))):=by
       rw[<-x.at_ u uQ]
       exact DGet.t (k:=kK (pr2 (dl m) (dl m') u)) e1 hbt5
      refine⟨_,rfl,.ref b,jdv (by rw[A9,hb];rfl),_,dg,?_⟩
      simp!
      have ul:u.length<=1000:=Io (W.hl j u eu) (by have:=(Ab.mp eu).1;omega)
      refine⟨by rw[jhz];show u.length+1<=sizeLine;omega,?_⟩
      rw[jgw]
      have e2p:upd H5 pt (.dT (putK kvs (kK (pr2 (dl m) (dl m') (u++[a]))) (.str (txt m (u++[a]))))) po=some (.lst (bs.map V.ref)):=by rw[jd npo.symm];exact e2
      have kq:Kp [pt] H5 (upd H5 pt (.dT (putK kvs (kK (pr2 (dl m) (dl m') (u++[a]))) (.str (txt m (u++[a])))))):=jfl (Kp.refl [pt] H5) e1 (.inl (by simp))
      have kq2:Kp [po] _ (upd (upd H5 pt (.dT (putK kvs (kK (pr2 (dl m) (dl m') (u++[a]))) (.str (txt m (u++[a])))))) po (.lst (bs.map V.ref++[.ref g]))):=(Kp.refl [po] _).set e2p (.inl (.head _))
      have kz:Kp [] H (upd (upd H5 pt (.dT (putK kvs (kK (pr2 (dl m) (dl m') (u++[a]))) (.str (txt m (u++[a])))))) po (.lst (bs.map V.ref++[.ref g]))):=(jfl kp e1 (.inr hpt)).set e2p (.inr hpo0)
      refine⟨_,DPut.t (v:=.str (txt m (u++[a]))) e1 hgt (by omega),by rw[e2p];rfl,_,by rw[e2p];rfl,by rw[Aa];omega,(hW1 _ _ _).mpr ⟨Q'++[u++[a]],_,bs++[g],_,_,_,rfl,W.add eu ha c,by rw[A1 (Ab.mp eu).1];exact eu,λi v hi ev=>?_,x.new c,by rw[jd npo,jb],by rw[jb,I0];rfl,by rw[A1 (Ab.mp hb).1];exact hb,?_,kz⟩⟩
      ·refine eq i v hi ?_
       have:=(Ab.mp eu).1
       rw[A1 (by omega)]at ev
       exact ev
      ·refine jan ?_ (Paired.mapP pb ?_)
       ·exact kq2.tup _ _ (kq.tup _ _ hgt)
       ·exact λ_ _ e=>kq2.tup _ _ (kq.tup _ _ e)
    ·intro σ H3 hW
     obtain⟨Q',kvs,bs,v7,v8,v9,rfl,W,eu,eq,x,e1,e2,hb,pb,kp⟩:=(hW1 _ _ _).mp hW
     clear hW
     simp!
     refine⟨_,by omega,(hW0 _ _ _).mpr ⟨Q',kvs,bs,j+1,_,_,v7,v8,v9,rfl,W.next,(Ab.mp eu).1,λi v hi ev=>?_,x,e1,e2,pb,kp,rfl⟩⟩
     by_cases ci:i=j
     ·subst ci;rw[eu]at ev;cases ev;exact ey
     ·exact eq i v (by omega) ev
  ·rw[Ah (by simpa using c)]
   have jq:j=Q'.length:=by omega
   subst jq
   have pk:Paired (λb k=>H2 b=some (.tup (k.map V.int))) bs (Q'.map λu=>kP (pr2 (dl m) (dl m') u)):=jkc pb
   have ek:=jaz pk
   refine⟨po,bs,jeo H2,rfl,e2,λb hb=>?_,by omega,λpp bs' hpp hp so=>⟨by omega,λq' hq'=>?_⟩⟩
   ·obtain⟨k0,hk0,e⟩:=zx pk b hb
    rw[je6 e]
    refine⟨e,?_⟩
    obtain⟨r0,_,rfl⟩:=Ij.mp hk0
    unfold kP;simp
   ·have kA:=(Kp.refl [] H2).new (o:=.lst (bs'.map V.ref)) hpp
    have kB:=kA.new (o:=.tup [.str (Str.ofString "alike"),.ref pp]) hq'
    have pl:=hp.length_eq
    have h0:H pp=none:=kp.free hpp
    have el:(upd (upd H2 pp (.lst (bs'.map V.ref))) q' (.tup [.str (Str.ofString "alike"),.ref pp])) pp=some (.lst (bs'.map V.ref)):=by
     rw[jd (jf jb hq'),jb]
    have pm:(bs'.map (jeo H2)).Perm (Q'.map λu=>kP (pr2 (dl m) (dl m') u)):=by rw[<-ek];exact hp.map _
    have nd:(Q'.map λu=>kP (pr2 (dl m) (dl m') u)).Nodup:=by
     have:=W.nd
     refine O5.mpr ((O5.mp this).imp λne e=>ne (jlo e))
    have ev:∀v∈Q',yy m (run (dl m) 0 v)=yy m' (run (dl m') 0 v):=λv hv=>by
     obtain⟨i,hi⟩:=Oa hv
     exact eq i v (Ab.mp hi).1 hi
    refine k q' _ Option.none (bs'.map (jeo H2)) ⟨W.none zl ev,λ_=>⟨so,pm.nodup_iff.mpr nd,λx=>pm.mem_iff.trans ⟨λh=>?_,fun⟨w,hw,e⟩=>?_⟩⟩⟩ (λt z=>by cases z) ⟨pp,bs',jb,h0,el,by omega,?_⟩ (kp.trans kB)
    ·obtain⟨u,hu,rfl⟩:=Ij.mp h
     exact⟨u,W.ov u hu,rfl⟩
    ·obtain⟨t,ht,et⟩:=Ij.mp (W.all zl w hw)
     rw[e,<-et]
     exact Ij.mpr ⟨t,ht,rfl⟩
    ·exact Paired.mapP (jak λb hb=>let⟨k0,_,e⟩:=zx pk b (hp.mem_iff.mp hb);⟨k0,e⟩) λ_ _ e=>kB.tup _ _ e
end
local macro_rules
 | `(tactic| simp!)=>`(tactic| simp only [tSeq,tIfS,jdl,tOp,tVar,tC,tAsg,jc4,gSub,tRet,jdi,jdf,jdg,tAnd,tOr,tNot,jda,jdj,tB,jdd,rI0,rI,jb2,jb4,jb9,jca,jcn,jco,jcm,jcg,jb7,jb6,jb8,jb5,jck,jb1,jb0,jcb,jby,jci,jcz,jcj,jch,jcp,jc1,jcr,jcq,jcc,jcy,jb3,jcf,jcd,jce,Option.isSome_some,tBML,tCB,jde,tNil,tLst,tTup,jdn,tSl,jdk,jcw,jcs,iAny,jdb,jc5,jc7,jcv,jdc,tAug,ipI,jc2,jc9,jcu,jcx,jdh,jc8,hdl,jc0,jcl,tBM,jc3,Option.bind_some,Option.bind_none,Option.getD_some,L2.start,Ak,Au,List.length_cons,List.length_nil,List.cons_append,List.nil_append,Aq,At,List.replicate,List.getElem?_cons_zero,List.getElem?_cons_succ,List.set_cons_zero,List.set_cons_succ,Nat.reduceSub,Nat.reduceAdd,Nat.reduceLeDiff,Ap,V.int.injEq,V.bl.injEq,V.str.injEq,V.ref.injEq,HO.lst.injEq,HO.tup.injEq,Aw,A3,Ax,Is,Ii,jb,jct,jdm,jdp,jdq,A4,Az,Ao,Af,Ih,Ik,reduceIte,reduceCtorEq,jc6,tLam,jbz,jdx,jbz,jdr])
 | `(tactic| simp! [$ls,*])=>`(tactic| simp only [tSeq,tIfS,jdl,tOp,tVar,tC,tAsg,jc4,gSub,tRet,jdi,jdf,jdg,tAnd,tOr,tNot,jda,jdj,tB,jdd,rI0,rI,jb2,jb4,jb9,jca,jcn,jco,jcm,jcg,jb7,jb6,jb8,jb5,jck,jb1,jb0,jcb,jby,jci,jcz,jcj,jch,jcp,jc1,jcr,jcq,jcc,jcy,jb3,jcf,jcd,jce,Option.isSome_some,tBML,tCB,jde,tNil,tLst,tTup,jdn,tSl,jdk,jcw,jcs,iAny,jdb,jc5,jc7,jcv,jdc,tAug,ipI,jc2,jc9,jcu,jcx,jdh,jc8,hdl,jc0,jcl,tBM,jc3,Option.bind_some,Option.bind_none,Option.getD_some,L2.start,Ak,Au,List.length_cons,List.length_nil,List.cons_append,List.nil_append,Aq,At,List.replicate,List.getElem?_cons_zero,List.getElem?_cons_succ,List.set_cons_zero,List.set_cons_succ,Nat.reduceSub,Nat.reduceAdd,Nat.reduceLeDiff,Ap,V.int.injEq,V.bl.injEq,V.str.injEq,V.ref.injEq,HO.lst.injEq,HO.tup.injEq,Aw,A3,Ax,Is,Ii,jb,jct,jdm,jdp,jdq,A4,Az,Ao,Af,Ih,Ik,reduceIte,reduceCtorEq,jc6,tLam,jbz,jdx,jbz,jdr,$ls,*])
theorem BoxO.lstB{o:HO}(h:BoxO o):∃xs,o=.lst xs:=by obtain⟨c,s,e,_⟩:=h;exact⟨_,e⟩
structure FC(H:Hp)(b p a1 a2:Addr)(m:Mach)(rs:List V)(o:HO)(H':Hp):Prop where
 kp:Kp [b] H H'
 hb:H' b=some o
 ho:BoxO o
 ma:MA H' m p a1 a2 rs
theorem FC.new{H H1:Hp}{b p a1 a2 t:Addr}{m:Mach}{rs:List V}{o x:HO}(F:FC H b p a1 a2 m rs o H1)(ht:H1 t=none):FC H b p a1 a2 m rs o (upd H1 t x) :=
 ⟨F.kp.new ht,by rw[jd (jf F.hb ht)];exact F.hb,F.ho,F.ma.kp ((Kp.refl [] _).new ht)⟩
theorem FC.box{H H1:Hp}{b p a1 a2:Addr}{m:Mach}{rs:List V}{o o':HO}(F:FC H b p a1 a2 m rs o H1)(ho:BoxO o'):FC H b p a1 a2 m rs o' (upd H1 b o'):=by
 obtain⟨xs,rfl⟩:=F.ho.lstB
 exact⟨F.kp.set F.hb (.inl (by simp)),jb,ho,F.ma.kp ((Kp.refl [b] _).set F.hb (.inl (by simp)))⟩
theorem FC.set{H H1:Hp}{b p a1 a2 q:Addr}{m:Mach}{rs xs:List V}{o x:HO}(F:FC H b p a1 a2 m rs o H1)(hq:H1 q=some (.lst xs))(h0:H q=none)(nb:b≠q):FC H b p a1 a2 m rs o (upd H1 q x) :=
 ⟨F.kp.set hq (.inr h0),by rw[jd nb];exact F.hb,F.ho,F.ma.kp ((Kp.refl [q] _).set hq (.inl (.head _)))⟩
theorem jg1{h:List Nat}{x y:Nat}(hx:h[x]?=some y):atI (h.map iV) ((x:Nat):Int)=some (.int (y:Int)):=by
 refine jdv ?_
 rw[A9,hx]
 rfl
theorem jmt(n:Nat)(lo:Nat):((List.range n).map λi=>V.int ((lo:Int)+(i:Nat)))=((List.range n).map (lo+·)).map iV:=by
 rw[Oq]
 apply Om
 intro i _
 simp[iV,Function.comp]
structure Ord(n M:Nat)(ol od:List Nat):Prop where
 l1:ol.length=M
 l2:od.length=M
 nm:n<=M
 id:∀i,i<n->ol[i]?=some i
 lt:∀x∈ol,x<n
 pm:od.Perm (List.range M)
theorem Ord.at_{n M:Nat}{ol od:List Nat}(O:Ord n M ol od){x:Nat}(h:x∈od):∃y,ol[x]?=some y/\y<n:=by
 have hx:x<ol.length:=by rw[O.l1];exact Ow.mp (O.pm.mem_iff.mp h)
 exact⟨ol[x],by simp[hx],O.lt _ (List.getElem_mem hx)⟩
def hitB(ol od:List Nat)(g:Int)(k:Nat):Bool:=decide (((ol.getD (od.getD k 0) 0:Nat):Int)=g)
theorem Ord.hit{n M:Nat}{ol od:List Nat}(O:Ord n M ol od){g:Int}(h0:0<=g)(h:g<(n:Int)):1<=((List.range M).filter (hitB ol od g)).length:=by
 have hm:g.toNat∈od:=O.pm.mem_iff.mpr (Ow.mpr (by have:=O.nm;omega))
 obtain⟨k,hk⟩:=Oa hm
 have hkl:k<M:=by rw[<-O.l2];exact(Ab.mp hk).1
 have e1:od.getD k 0=g.toNat:=by rw[Ag,hk];rfl
 have e2:ol.getD g.toNat 0=g.toNat:=by rw[Ag,O.id g.toNat (by omega)];rfl
 refine List.length_pos_of_mem (a:=k) (W5.mpr ⟨Ow.mpr hkl,?_⟩)
 unfold hitB
 rw[e1,e2]
 simp
 omega
def fY(m:Mach)(ol:List Nat):V->V
 |.int i=>.bl (yy m (ol.getD i.toNat 0))
 |_=>.non
def jji:Sp:=λvs H Q _=>∃(b p:Addr)(m:Mach)(o:HO),vs=[.ref b,.ref p,.int 3]/\H b=some o/\BoxO o/\Rep H (.ref p) m.D/\Mach.Ok m 30 /\
 ∀p' m' o' H',m'.z=m.z->Mach.Ok m' 33->BoxO o'->H' b=some o'->Kp [b] H H'->Rep H' (.ref p') m'.D->Q (.ref p') H'
structure TCp(mg:Str->Option Value)(ft:Addr):Prop where
 n_len:mg "len"=none
 n_list:mg "list"=none
 n_range:mg "range"=none
 n_tuple:mg "tuple"=none
 m0z:mg "_law_take"=some (.ref ft)
section
variable{P:Program}{w:World}{K:PySem.W.Frag}{mg:Str->Option Value}{base:Heap}
abbrev km:Stmt:=top 27
theorem j7:FnScope ["_law_box_here","_law_machine_here","_law_most","_law_letters_here","_law_moves","_law_yes","_law_many","_law_olds","_law_order","_law_left","_law_k","_law_rows","_law_place","_law_row","_law_goal","_law_some"] ["_law_box_here","_law_machine_here","_law_most"] (jh km):=⟨rfl,rfl,rfl,by decide +kernel,rfl,by decide +kernel,by decide +kernel⟩
theorem ok__law_copied{f ft:Addr}{fd fdt:FuncData}(F:Fun K "_law_copied" "_law_copied" km f fd)(T:TCp mg ft)(F0z:Fun K "_law_take" "_law_take" kn ft fdt)(b0z:Binds K fdt ["_law_box_here","_law_wide"] [])
  (G0z:FnOk P w K mg base CX0 1 ft fdt ["_law_box_here","_law_wide"] je7):FnOk P w K mg base CX0 2 f fd ["_law_box_here","_law_machine_here","_law_most"] jji:=by
 refine F.ok j7 (λvs H Q E h=>?_) (λcdv A outer s H vs Q E hr h=>?_)
 ·obtain⟨b,p,m,o,rfl,_⟩:=h
  rfl
 ·obtain⟨b,p,m,o,rfl,hb,ho,hm,ok,k⟩:=h
  have hu:=hr.units
  have hsz:sizeLine=16777216:=Iw
  obtain⟨a1,a2,rs,ma⟩:=Mach.opened hm
  have n1:=ok.n1
  have nh:=ok.nh
  refine⟨_,(QSs.h (jg (zq (qpv 1) (jaf (n:=3) rfl (ku (jv (i:=3) j7.nd rfl (by ac_rfl)) (ku (jv (i:=4) j7.nd rfl (by ac_rfl)) (ku (jv (i:=5) j7.nd rfl (by ac_rfl)) z0))) (K:=K) rfl))
  (jg (jk (i:=6) j7.nd rfl (by ac_rfl) (jn j4 (by rfl) T.n_len ke (ja (qpv 5) jc)))
  (jg (jk (i:=7) j7.nd rfl (by ac_rfl) (jo kh (ju (jaq rfl) (by rfl) T.n_list zn (ja (ju jam (by rfl) T.n_range ja2 (ja (qpv 6) jc)) jc)) (jah rfl (jel (sc:=jh km) (N:=["_law_box_here","_law_machine_here","_law_most","_law_letters_here","_law_moves","_law_yes","_law_many","_law_olds","_law_order","_law_left","_law_k","_law_rows","_law_place","_law_row","_law_goal","_law_some"]) (Nc:=["_law_k","_law_box_here","_law_many"]) (js:=[none,some 0,some 6]) (by decide +kernel)) (yq rfl T.n_range (ja (jm G0z (hr.mono (by decide)) rfl T.m0z F0z.kp b0z .nil jy (ja (qpv 0) (ja (jo kh (qpv 2) je) jc))) jc)) (λ_ _ _ _=>(jv (i:=0) (show List.Nodup [("_law_k":Str),("_law_box_here":Str),("_law_many":Str)]from by decide +kernel) rfl (by ac_rfl))) (λ_ _ _ _=>(jm G0z (hr.mono (by decide)) rfl T.m0z F0z.kp b0z .nil jy (ja (qpv 1) (ja (qpv 2) jc)))))))
  (jg (jk (i:=8) j7.nd rfl (by ac_rfl) (ya (ja je jc)))
  (jg (jk (i:=9) j7.nd rfl (by ac_rfl) (ju (jaq rfl) (by rfl) T.n_list zn (ja (ju jam (by rfl) T.n_range ja2 (ja je (ja (jn j4 (by rfl) T.n_len ke (ja (qpv 7) jc)) jc))) jc)))
  (jg (zb Od rfl (yq rfl T.n_range (ja (jo jbw (jn j4 (by rfl) T.n_len ke (ja (qpv 7) jc)) je) jc)) (jv (i:=10) j7.nd rfl (by ac_rfl)) (jj (yi (yv Iu Iv yb (qpv 8) (ja (yv PySem.F.slot_list_pop PySem.F.type_list_pop jbq (qpv 9) (ja (jm G0z (hr.mono (by decide)) rfl T.m0z F0z.kp b0z .nil jy (ja (qpv 0) (ja (jn j4 (by rfl) T.n_len ke (ja (qpv 9) jc)) jc))) jc) jd3) jc) jd3))))
  (jg (jk (i:=11) j7.nd rfl (by ac_rfl) (ya jc))
  (jg (zb Od rfl (z5 (K:=K) (qpv 8) rfl) (jv (i:=12) j7.nd rfl (by ac_rfl)) (jg (jk (i:=13) j7.nd rfl (by ac_rfl) (ya jc))
  (jg (zb Od rfl (z5 (K:=K) (ji ix_U (qpv 4) (ji ix_U (qpv 7) (qpv 12) (λ_ _=>rfl)) (λ_ _=>rfl)) rfl) (jv (i:=14) j7.nd rfl (by ac_rfl)) (jg (qps_setcIf (i:=15) j7.nd rfl (by ac_rfl) rfl (jel (sc:=jh km) (N:=["_law_box_here","_law_machine_here","_law_most","_law_letters_here","_law_moves","_law_yes","_law_many","_law_olds","_law_order","_law_left","_law_k","_law_rows","_law_place","_law_row","_law_goal","_law_some"]) (Nc:=["_law_k","_law_goal","_law_olds","_law_order"]) (js:=[none,some 14,some 7,some 8]) (by decide +kernel)) (yq rfl T.n_range (ja (jn j4 (by rfl) T.n_len ke (ja (qpv 8) jc)) jc)) (λ_ _ _ _=>(jv (i:=0) (show List.Nodup [("_law_k":Str),("_law_goal":Str),("_law_olds":Str),("_law_order":Str)]from by decide +kernel) rfl (by ac_rfl))) (λ_ _ _ _=>(jr (yh hu) (ji ix_U (qpv 2) (ji ix_U (qpv 3) (qpv 0) (λ_ _=>rfl)) (λ_ _=>rfl)) (qpv 1) (jz _))) (λ_ _ _ _=>(qpv 0)))
  (jj (yi (yv Iu Iv yb (qpv 13) (ja (ji ix_U (qpv 15) (jm G0z (hr.mono (by decide)) rfl T.m0z F0z.kp b0z .nil jy (ja (qpv 0) (ja (jn j4 (by rfl) T.n_len ke (ja (qpv 15) jc)) jc))) (λ_ _=>rfl)) jc) jd3)))))
  (jj (yi (yv Iu Iv yb (qpv 11) (ja (ju yg (by rfl) T.n_tuple y8 (ja (qpv 13) jc)) jc) jd3))))))
  (jj (jx (j9 (ja (qpv 3) (ja (ju yg (by rfl) T.n_tuple y8 (ja (qpv 11) jc)) (ja (ju yg (by rfl) T.n_tuple y8 (ja (jah rfl (jel (sc:=jh km) (N:=["_law_box_here","_law_machine_here","_law_most","_law_letters_here","_law_moves","_law_yes","_law_many","_law_olds","_law_order","_law_left","_law_k","_law_rows","_law_place","_law_row","_law_goal","_law_some"]) (Nc:=["_law_place","_law_yes","_law_olds"]) (js:=[none,some 5,some 7]) (by decide +kernel)) (z5 (K:=K) (qpv 8) rfl) (λ_ _ _ _=>(jv (i:=0) (show List.Nodup [("_law_place":Str),("_law_yes":Str),("_law_olds":Str)]from by decide +kernel) rfl (by ac_rfl))) (λ_ _ _ _=>(ji ix_U (qpv 1) (ji ix_U (qpv 2) (qpv 0) (λ_ _=>rfl)) (λ_ _=>rfl)))) jc)) jc))))))))))))))),?_⟩
  simp! [ma.t0]
  refine⟨p,_,rfl,SqT.of ma.t0,rfl,⟨_,_,rfl,⟨_,_,rfl,⟨_,_,rfl,rfl,?_⟩⟩⟩⟩
  simp! [ma.t2,Aa,ok.yl]
  generalize hn:m.mv.length=n at n1 nh
  refine⟨by omega,by omega,λpr hpr=>⟨0,(n:Int),jb,by omega,by omega,by omega,by omega,by omega,λl0 hl0=>?_⟩⟩
  have F0:FC H b p a1 a2 m rs o (upd (upd H pr (.rng 0 (n:Int))) l0 (.lst ((List.range n).map iV))):=FC.new (FC.new ⟨Kp.refl _ _,hb,ho,ma⟩ hpr) hl0
  have e0:((List.range ((n:Int)-0).toNat).map λi=>V.int (0+(i:Nat)))=(List.range n).map iV:=by
   have:((n:Int)-0).toNat=n:=by omega
   rw[this]
   apply Om
   intro i _
   simp[iV]
  rw[e0]
  have h0:upd (upd H pr (.rng 0 (n:Int))) l0 (.lst ((List.range n).map iV)) l0=some (.lst ((List.range n).map iV)):=jb
  have l0n:H l0=none:=((Kp.refl [b] H).new hpr).free hl0
  generalize upd (upd H pr (.rng 0 (n:Int))) l0 (.lst ((List.range n).map iV))=H0 at F0 h0
  refine⟨b,4,o,rfl,F0.hb,ho,by omega,by omega,λe o1 e0 e4 ho1=>?_⟩
  have F1:=F0.box ho1
  have h1:upd H0 b o1 l0=some (.lst ((List.range n).map iV)):=by
   rw[jd]
   ·exact h0
   ·rintro rfl
    rw[hb]at l0n
    cases l0n
  have nb0:b≠l0:=λq=>by subst q;rw[hb]at l0n;cases l0n
  generalize upd H0 b o1=H1 at F1 h1
  refine⟨e,rfl,by omega,by omega,λD hD=>?_⟩
  have Dn:H D=none:=F1.kp.free hD
  have nbD:b≠D:=jf F1.hb hD
  have n0D:l0≠D:=jf h1 hD
  refine jmi (λx=>∃t:Nat,x=iV t/\t<n) F1.hb ho1 hD (by omega) (λx H' o' Q' hb' ho' hq=>?_) λv xs o2 hl hP ho2=>?_
  ·simp!
   refine⟨b,(n:Int),_,rfl,hb',ho',by omega,by omega,λd o5 d0 d1 ho5=>hq _ _ ⟨d.toNat,?_,by omega⟩ ho5⟩
   unfold iV
   congr 1
   omega
  obtain⟨es,rfl,hes⟩:∃es:List Nat,xs=es.map iV/\∀t∈es,t<n:=by
   clear hl
   induction xs with
   |nil=>exact⟨[],rfl,λ_ h=>nomatch h⟩
   |cons x xs ih =>
    obtain⟨t,rfl,ht⟩:=hP x (.head _)
    obtain⟨es,rfl,h⟩:=ih λy hy=>hP y (.tail _ hy)
    exact⟨t::es,rfl,λy hy=>(Il.mp hy).elim (λe=>e▸ht) (h y)⟩
  rw[Aa]at hl
  have F2:FC H b p a1 a2 m rs o2 (upd (upd H1 b o2) D (.lst (es.map iV))):=(F1.box ho2).new (by rw[jd nbD.symm];exact hD)
  have h2:upd (upd H1 b o2) D (.lst (es.map iV)) l0=some (.lst ((List.range n).map iV)):=by rw[jd n0D,jd nb0.symm];exact h1
  have hD2:upd (upd H1 b o2) D (.lst (es.map iV)) D=some (.lst (es.map iV)):=jb
  generalize upd (upd H1 b o2) D (.lst (es.map iV))=H2 at F2 h2 hD2
  refine .inl ⟨_,_,by rw[h2];rfl,by rw[hD2];rfl,by rw[Aa,Aa,Of];omega,λlo hlo=>?_⟩
  rw[<-I0]
  have lon:H lo=none:=F2.kp.free hlo
  have nbo:b≠lo:=jf F2.hb hlo
  have F3:FC H b p a1 a2 m rs o2 (upd H2 lo (.lst ((List.range n++es).map iV))):=F2.new hlo
  have h3:upd H2 lo (.lst ((List.range n++es).map iV)) lo=some (.lst ((List.range n++es).map iV)):=jb
  generalize upd H2 lo (.lst ((List.range n++es).map iV))=H3 at F3 h3
  have ol1:∀i,i<n->(List.range n++es)[i]?=some i:=λi hi=>by rw[A1 (by simpa using hi)];simp[hi]
  have ol2:∀x∈List.range n++es,x<n:=λx hx=>(A0.mp hx).elim Ow.mp (hes x)
  have ol3:(List.range n++es).length=n+es.length:=by rw[Ae,Of]
  generalize List.range n++es=ol at F3 h3 ol1 ol2 ol3
  refine⟨by omega,λld hld=>?_⟩
  have ldn:H ld=none:=F3.kp.free hld
  have nbd:b≠ld:=jf F3.hb hld
  have nod:lo≠ld:=jf h3 hld
  have F4:FC H b p a1 a2 m rs o2 (upd H3 ld (.lst ([0].map iV))):=F3.new hld
  have h4:upd H3 ld (.lst ([0].map iV)) lo=some (.lst (ol.map iV)):=by rw[jd nod];exact h3
  have hd4:upd H3 ld (.lst ([0].map iV)) ld=some (.lst ([0].map iV)):=jb
  show jhh [V.ref lo] (upd H3 ld (.lst ([0].map iV))) _
  generalize upd H3 ld (.lst ([0].map iV))=H4 at F4 h4 hd4
  simp! [h4,Aa]
  refine⟨by omega,by omega,by omega,by omega,λpr2 hpr2=>⟨1,(ol.length:Int),jb,by omega,by omega,by omega,by omega,by omega,λll hll=>?_⟩⟩
  have lln:H ll=none:=((F4.new (x:=.rng 1 (ol.length:Int)) hpr2).kp).free hll
  have F5:FC H b p a1 a2 m rs o2 (upd (upd H4 pr2 (.rng 1 (ol.length:Int))) ll (.lst ((List.range (ol.length-1)).map (1+·) |>.map iV))):=(F4.new hpr2).new hll
  have e5:((List.range ((ol.length:Int)-1).toNat).map λi=>V.int (1+(i:Nat)))=((List.range (ol.length-1)).map (1+·)).map iV:=by
   have:((ol.length:Int)-1).toNat=ol.length-1:=by omega
   rw[this]
   exact jmt _ 1
  rw[e5]
  have nbl:b≠ll:=λq=>by subst q;rw[hb]at lln;cases lln
  have nol:lo≠ll:=λq=>by subst q;rw[(((Kp.refl [] H4).new (o:=.rng 1 (ol.length:Int)) hpr2).old _ _ h4 Aj)]at hll;cases hll
  have ndl:ld≠ll:=λq=>by subst q;rw[(((Kp.refl [] H4).new (o:=.rng 1 (ol.length:Int)) hpr2).old _ _ hd4 Aj)]at hll;cases hll
  have k5:Kp [] H4 (upd (upd H4 pr2 (.rng 1 (ol.length:Int))) ll (.lst (((List.range (ol.length-1)).map (1+·)).map iV))):=((Kp.refl [] H4).new hpr2).new hll
  have hl5:upd (upd H4 pr2 (.rng 1 (ol.length:Int))) ll (.lst (((List.range (ol.length-1)).map (1+·)).map iV)) ll=some (.lst (((List.range (ol.length-1)).map (1+·)).map iV)):=jb
  generalize upd (upd H4 pr2 (.rng 1 (ol.length:Int))) ll (.lst (((List.range (ol.length-1)).map (1+·)).map iV))=H5 at F5 k5 hl5
  have h5:=k5.old _ _ h4 Aj
  have hd5:=k5.old _ _ hd4 Aj
  refine⟨_,by rw[h5];rfl,by omega,by rw[Aa];omega,?_⟩
  rw[Aa,show((ol.length:Int)-1).toNat=ol.length-1 by omega]
  refine jd7 (λi σ H'=>∃(v10:Option V)(od R:List Nat)(o':HO),σ=[some (.ref b),some (.ref p),some (.int 3),some (.str m.z),some (.ref a1),some (.ref a2),some (.int (n:Int)),some (.ref lo),some (.ref ld),some (.ref ll),v10,none,none,none,none,none]/\FC H b p a1 a2 m rs o' H' /\
   H' lo=some (.lst (ol.map iV))/\H' ld=some (.lst (od.map iV))/\H' ll=some (.lst (R.map iV))/\od.length=1+i/\(od++R).Perm (List.range ol.length)) ?_ ?_ ?_
  ·refine⟨none,[0],(List.range (ol.length-1)).map (1+·),o2,rfl,F5,h5,hd5,hl5,rfl,?_⟩
   have e:List.range ol.length=0::(List.range (ol.length-1)).map (1+·):=by
    have:ol.length=(ol.length-1)+1:=by omega
    rw[this,List.range_succ_eq_map]
    simp[Nat.add_comm]
   rw[e]
   exact U8 _
  ·rintro i σ H' hi ⟨v10,od,R,o',rfl,F',hlo',hld',hll',hl',pm⟩
   have hR:R.length=ol.length-(1+i):=by
    have:=pm.length_eq
    rw[Ae,Of]at this
    omega
   simp! [hld',hll',Aa]
   refine⟨b,(R.length:Int),o',rfl,F'.hb,F'.ho,by omega,by omega,λd o3 d0 d1 ho3=>?_⟩
   have F6:=F'.box ho3
   have k6:Kp [b] H' (upd H' b o3):=let⟨_,e⟩:=F'.ho.lstB;(Kp.refl [b] H').set (by rw[F'.hb,e]) (.inl (by simp))
   have a6:=k6.old _ _ hlo' (by simp[nbo.symm])
   have b6:=k6.old _ _ hld' (by simp[nbd.symm])
   have c6:=k6.old _ _ hll' (by simp[nbl.symm])
   generalize upd H' b o3=H6 at F6 a6 b6 c6
   obtain⟨c,hc⟩:∃c,R[d.toNat]?=some c:=⟨R[d.toNat]'(by omega),by simp⟩
   refine⟨_,by rw[c6];rfl,d0,iV c,by rw[A9,hc];rfl,?_⟩
   have pm2:=jfr R d.toNat c hc
   refine⟨_,by rw[jd ndl,b6];rfl,by rw[Aa];omega,od++[c],R.eraseIdx d.toNat,o3,(F6.set c6 lln nbl).set (by rw[jd ndl];exact b6) ldn nbd,?_,?_,?_,by rw[Ae];simp;omega,?_⟩
   ·rw[jd nod,jd nol];exact a6
   ·rw[I0];rfl
   ·rw[jd ndl.symm,jb,jf0]
   ·refine List.Perm.trans ?_ pm
    rw[A8]
    exact pm2.append_left od
  ·rintro σ H' ⟨v10,od,R,o',rfl,F',hlo',hld',hll',hl',pm⟩
   have hR:R=[]:=by
    have:=pm.length_eq
    rw[Ae,Of]at this
    exact List.eq_nil_of_length_eq_zero (by omega)
   subst hR
   rw[Aq]at pm
   have O:Ord n ol.length ol od:=⟨rfl,by omega,by omega,ol1,ol2,pm⟩
   have M11:ol.length<=33:=by omega
   have odl:od.length=ol.length:=by omega
   clear F5 k5 hl5 h5 hd5 F4 h4 hd4 F3 h3 F2 h2 hD2
   simp!
   refine⟨by omega,λlr hlr=>?_⟩
   have lrn:=F'.kp.free hlr
   have nbr:b≠lr:=jf F'.hb hlr
   have nor:lo≠lr:=jf hlo' hlr
   have ndr:ld≠lr:=jf hld' hlr
   have F7:FC H b p a1 a2 m rs o' (upd H' lr (.lst [])):=F'.new hlr
   have a7:upd H' lr (.lst []) lo=some (.lst (ol.map iV)):=by rw[jd nor];exact hlo'
   have b7:upd H' lr (.lst []) ld=some (.lst (od.map iV)):=by rw[jd ndr];exact hld'
   have c7:upd H' lr (.lst []) lr=some (.lst []):=jb
   generalize upd H' lr (.lst [])=H7 at F7 a7 b7 c7
   simp only[b7]
   refine jfz (xs:=od.map iV) (λi σ H'=>∃(v12 v13 v14 v15:Option V)(ws:List V)(rows:List (List Int))(o':HO),σ=[some (.ref b),some (.ref p),some (.int 3),some (.str m.z),some (.ref a1),some (.ref a2),some (.int (n:Int)),some (.ref lo),some (.ref ld),some (.ref ll),v10,some (.ref lr),v12,v13,v14,v15]/\FC H b p a1 a2 m rs o' H' /\
    H' lo=some (.lst (ol.map iV))/\H' ld=some (.lst (od.map iV))/\H' lr=some (.lst ws)/\Reps H' ws (rows.map rowD)/\rows.length=i/\∀r∈rows,r.length=m.z.length/\∀t∈r,0<=t/\t<(ol.length:Int)) ?_ ?_ ?_ ?_
   ·exact⟨none,none,none,none,[],[],o',rfl,F7,a7,b7,c7,by simp[Reps],rfl,λr hr=>nomatch hr⟩
   ·rintro i σ H8 _ ⟨v12,v13,v14,v15,ws,rows,o8,rfl,F8,a8,b8,c8,hrs,hrl,hrg⟩
    exact b8
   ·rintro i x σ H8 hx ⟨v12,v13,v14,v15,ws,rows,o8,rfl,F8,a8,b8,c8,hrs,hrl,hrg⟩
    obtain⟨c,hc,rfl⟩:∃c,od[i]?=some c/\x=iV c:=by
     rw[A9]at hx
     cases e:od[i]? with
     |none=>rw[e]at hx;cases hx
     |some c=>rw[e]at hx;exact⟨c,rfl,(A7 hx).symm⟩
    have hi:i<od.length:=(Ab.mp hc).1
    obtain⟨y,hy,hyn⟩:=O.at_ (Ay hc)
    simp!
    refine⟨by omega,λq hq=>?_⟩
    have qn:=F8.kp.free hq
    have nbq:b≠q:=jf F8.hb hq
    have noq:lo≠q:=jf a8 hq
    have ndq:ld≠q:=jf b8 hq
    have nrq:lr≠q:=jf c8 hq
    have F9:FC H b p a1 a2 m rs o8 (upd H8 q (.lst [])):=F8.new hq
    have k9:Kp [] H8 (upd H8 q (.lst [])):=(Kp.refl [] H8).new hq
    have d9:upd H8 q (.lst []) q=some (.lst []):=jb
    generalize upd H8 q (.lst [])=H9 at F9 k9 d9
    have a9:=k9.old _ _ a8 Aj
    have b9:=k9.old _ _ b8 Aj
    have c9:=k9.old _ _ c8 Aj
    obtain⟨r,er,hrr⟩:=F9.ma.rw y (by omega)
    refine⟨_,by rw[a9];rfl,_,jg1 hy,?_⟩
    simp! [F9.ma.t1,jdv er,hrr]
    have hrow:=ok.row _ (jex m.mv y [] (by omega))
    rw[hn]at hrow
    refine jgm (xs:=(m.mv.getD y []).map V.int) (λj σ H'=>∃(v14 v15:Option V)(row:List Int)(o':HO),σ=[some (.ref b),some (.ref p),some (.int 3),some (.str m.z),some (.ref a1),some (.ref a2),some (.int (n:Int)),some (.ref lo),some (.ref ld),some (.ref ll),v10,some (.ref lr),some (.int (c:Int)),some (.ref q),v14,v15]/\FC H b p a1 a2 m rs o' H' /\
     H' lo=some (.lst (ol.map iV))/\H' ld=some (.lst (od.map iV))/\H' lr=some (.lst ws)/\Reps H' ws (rows.map rowD)/\H' r=some (.tup ((m.mv.getD y []).map V.int))/\H' q=some (.lst (row.map V.int))/\row.length=j/\∀t∈row,0<=t/\t<(ol.length:Int)) ?_ ?_ ?_ ?_
    ·exact⟨v14,v15,[],o8,rfl,F9,a9,b9,c9,Reps.kp k9 (jd4 rows) hrs,hrr,d9,rfl,λt ht=>nomatch ht⟩
    ·rintro j σ H' _ ⟨v14,v15,row,o',rfl,F',a',b',c',hrs',hr',d',hrl',hgood⟩
     exact hr'
    ·rintro j x σ H' hx ⟨v14,v15,row,o',rfl,F',a',b',c',hrs',hr',d',hrl',hgood⟩
     obtain⟨g,hg,rfl⟩:∃g,g∈m.mv.getD y []/\x=.int g:=by
      obtain⟨g,h1,h2⟩:=Ij.mp (Ay hx)
      exact⟨g,h1,h2.symm⟩
     obtain⟨g0,g1⟩:=hrow.2 g hg
     have hit:=O.hit g0 g1
     have hjl:j<m.z.length:=by
      have:=(Ab.mp hx).1
      rw[Aa]at this
      omega
     have zl:=ok.let4.hi
     simp! [b',Aa]
     refine⟨by omega,by omega,λD hD=>?_⟩
     have Dn:=F'.kp.free hD
     have nbD:b≠D:=jf F'.hb hD
     have noD:lo≠D:=jf a' hD
     have ndD:ld≠D:=jf b' hD
     have nrD:lr≠D:=jf c' hD
     have nqD:q≠D:=jf d' hD
     rw[Int.toNat_natCast,odl]
     refine ji1 (hitB ol od g) iV (by omega) (λk2 hk2 l Q' hq'=>?_) (λk2 hk2 _ l Q' hq'=>?_) λv=>?_
     ·obtain⟨c2,hc2⟩:∃c2,od[k2]?=some c2:=⟨od[k2]'(by omega),by simp⟩
      obtain⟨y2,hy2,_⟩:=O.at_ (Ay hc2)
      have al:upd H' D (.lst l) lo=some (.lst (ol.map iV)):=by rw[jd noD];exact a'
      have bl:upd H' D (.lst l) ld=some (.lst (od.map iV)):=by rw[jd ndD];exact b'
      have eh:hitB ol od g k2=decide ((y2:Int)=g):=by simp[hitB,Ag,hc2,hy2]
      rw[eh]at hq'
      simp! [Int.zero_add,al,bl,jg1 hc2,jg1 hy2]
      exact hq'
     ·simp! [Int.zero_add]
      exact hq'
     ·have F2:FC H b p a1 a2 m rs o' (upd H' D (.lst (((List.range ol.length).filter (hitB ol od g)).map iV))):=F'.new hD
      have k2:Kp [] H' (upd H' D (.lst (((List.range ol.length).filter (hitB ol od g)).map iV))):=(Kp.refl [] H').new hD
      have e2:upd H' D (.lst (((List.range ol.length).filter (hitB ol od g)).map iV)) D=some (.lst (((List.range ol.length).filter (hitB ol od g)).map iV)):=jb
      have hfl:=List.length_filter_le (hitB ol od g) (List.range ol.length)
      rw[Of]at hfl
      have hfm:∀s∈(List.range ol.length).filter (hitB ol od g),s<ol.length:=λs hs=>Ow.mp (W5.mp hs).1
      generalize(List.range ol.length).filter (hitB ol od g)=S at F2 k2 e2 hfl hfm hit
      generalize upd H' D (.lst (S.map iV))=H2 at F2 k2 e2
      refine⟨by rw[k2.old _ _ d' Aj];rfl,_,by rw[e2];rfl,b,_,o',rfl,F2.hb,F2.ho,by rw[Aa];omega,by rw[Aa];omega,λd o3 d0 d1 ho3=>?_⟩
      rw[Aa]at d1
      have F3:=F2.box ho3
      have k3:Kp [b] H2 (upd H2 b o3):=let⟨_,e⟩:=F2.ho.lstB;(Kp.refl [b] H2).set (by rw[F2.hb,e]) (.inl (by simp))
      have k23:Kp [b] H' (upd H2 b o3):=(k2.mono (λ_ h=>nomatch h)).trans k3
      have e3:=k3.old _ _ e2 (by simp[nbD.symm])
      generalize upd H2 b o3=H3 at F3 k3 k23 e3
      obtain⟨t,ht⟩:∃t,S[d.toNat]?=some t:=⟨S[d.toNat]'(by omega),by simp⟩
      have htl:=hfm t (Ay ht)
      have d3:=k23.old _ _ d' (by simp[nbq.symm])
      have k4:Kp [q] H3 (upd H3 q (.lst (row.map V.int++[iV t]))):=(Kp.refl [q] H3).set d3 (.inl (.head _))
      refine⟨_,by rw[e3];rfl,iV t,jg2 d0 (by rw[A9,ht];rfl),_,by rw[d3];rfl,by rw[Aa];omega,_,_,⟨rfl,rfl⟩,row++[(t:Int)],o3,F3.set d3 qn nbq,?_,?_,?_,?_,?_,?_,by simp[hrl'],λu hu=>?_⟩
      ·exact k4.old _ _ (k23.old _ _ a' (by simp[nbo.symm])) (by simp[noq])
      ·exact k4.old _ _ (k23.old _ _ b' (by simp[nbd.symm])) (by simp[ndq])
      ·exact k4.old _ _ (k23.old _ _ c' (by simp[nbr.symm])) (by simp[nrq])
      ·exact Reps.kp k4 (jd4 rows) (Reps.kp k23 (jd4 rows) hrs')
      ·exact k4.tup _ _ (k23.tup _ _ hr')
      ·rw[I0];rfl
      ·rcases A0.mp hu with h|h
       ·exact hgood u h
       ·rw[Ai.mp h];omega
    ·rintro σ H2 ⟨v14,v15,row,o',rfl,F',a',b',c',hrs',hr',d',hrl',hgood⟩
     rw[Aa]at hrl'
     simp! [c']
     refine jd1 d' λl hl=>?_
     have ln:=F'.kp.free hl
     have F3:FC H b p a1 a2 m rs o' (upd H2 l (.tup (row.map V.int))):=F'.new hl
     have k3:Kp [] H2 (upd H2 l (.tup (row.map V.int))):=(Kp.refl [] H2).new hl
     have e3:upd H2 l (.tup (row.map V.int)) l=some (.tup (row.map V.int)):=jb
     generalize upd H2 l (.tup (row.map V.int))=H3 at F3 k3 e3
     have c3:=k3.old _ _ c' Aj
     have k4:Kp [lr] H3 (upd H3 lr (.lst (ws++[.ref l]))):=(Kp.refl [lr] H3).set c3 (.inl (.head _))
     have wl:ws.length=i:=by rw[Reps.len hrs',Aa];exact hrl
     refine⟨_,by rw[c3];rfl,by omega,_,_,_,_,⟨rfl,rfl,rfl,rfl⟩,_,rows++[row],o',F3.set c3 lrn nbr,?_,?_,rfl,?_,by simp[hrl],λr2 hr2=>?_⟩
     ·exact k4.old _ _ (k3.old _ _ a' Aj) (by simp[nor])
     ·exact k4.old _ _ (k3.old _ _ b' Aj) (by simp[ndr])
     ·rw[I0]
      refine Reps.app (Reps.kp k4 (jd4 rows) (Reps.kp k3 (jd4 rows) hrs')) ?_
      simp only[Ak,Au,Reps,Rep,rowD,Ii]
      exact⟨l,_,rfl,k4.tup _ _ e3,Reps.ints _ row⟩
     ·rcases A0.mp hr2 with h|h
      ·exact hrg r2 h
      ·rw[Ai.mp h]
       exact⟨by rw[hrl'];exact hrow.1,hgood⟩
   ·rintro σ H1 ⟨v12,v13,v14,v15,ws,rows,o',rfl,F',a',b',c',hrs,hrl,hrg⟩
    rw[Aa]at hrl
    simp!
    refine jd1 c' λl1 hl1=>?_
    have F2:FC H b p a1 a2 m rs o' (upd H1 l1 (.tup ws)):=F'.new hl1
    have k2:Kp [] H1 (upd H1 l1 (.tup ws)):=(Kp.refl [] H1).new hl1
    have e2:upd H1 l1 (.tup ws) l1=some (.tup ws):=jb
    generalize upd H1 l1 (.tup ws)=H2 at F2 k2 e2
    have b2:=k2.old _ _ b' Aj
    have a2':=k2.old _ _ a' Aj
    simp only[b2]
    intro D hD
    have Dn:=F2.kp.free hD
    have noD:lo≠D:=jf a2' hD
    refine jld (fY m ol) b2 hD (by rw[Aa];omega) (λx hx l Q' hq'=>?_) λv=>?_
    ·obtain⟨c2,hc2,rfl⟩:=Ij.mp hx
     obtain⟨y2,hy2,yn⟩:=O.at_ hc2
     have al:upd H2 D (.lst l) lo=some (.lst (ol.map iV)):=by rw[jd noD];exact a2'
     have ml:=(F2.ma.kp ((Kp.refl [] H2).new (o:=.lst l) hD)).t2
     have ey:ol.getD (c2:Int).toNat 0=y2:=by rw[Int.toNat_natCast,Ag,hy2];rfl
     simp only[iV,fY,ey]at hq'
     simp! [al,ml,iV]
     refine⟨_,jg1 hy2,?_⟩
     exact⟨_,by rw[ml];rfl,_,je5 ok (by omega),hq'⟩
    ·have em:(od.map iV).map (fY m ol)=(od.map λc=>yy m (ol.getD c 0)).map V.bl:=by
      rw[Oq,Oq]
      apply Om
      intro c _
      simp[iV,fY,Function.comp]
     have yl:(od.map λc=>yy m (ol.getD c 0)).length=ol.length:=by rw[Aa];exact odl
     rw[em]
     generalize(od.map λc=>yy m (ol.getD c 0))=ys at yl
     have F3:FC H b p a1 a2 m rs o' (upd H2 D (.lst (ys.map V.bl))):=F2.new hD
     have k3:Kp [] H2 (upd H2 D (.lst (ys.map V.bl))):=(Kp.refl [] H2).new hD
     have e3:upd H2 D (.lst (ys.map V.bl)) D=some (.lst (ys.map V.bl)):=jb
     generalize upd H2 D (.lst (ys.map V.bl))=H3 at F3 k3 e3
     dsimp only
     refine jd1 e3 λl2 hl2=>⟨by omega,λl3 hl3=>?_⟩
     have n23:l2≠l3:=jf jb hl3
     have kA:Kp [] H3 (upd (upd H3 l2 (.tup (ys.map V.bl))) l3 (.tup [.str m.z,.ref l1,.ref l2])):=((Kp.refl [] H3).new hl2).new hl3
     have F4:FC H b p a1 a2 m rs o' (upd (upd H3 l2 (.tup (ys.map V.bl))) l3 (.tup [.str m.z,.ref l1,.ref l2])):=(F3.new hl2).new hl3
     have k4:Kp [] H1 (upd (upd H3 l2 (.tup (ys.map V.bl))) l3 (.tup [.str m.z,.ref l1,.ref l2])):=(k2.trans k3).trans kA
     refine k l3 ⟨m.z,rows,ys⟩ o' _ rfl ⟨ok.let4,by show 1<=rows.length;omega,by show rows.length<=33;omega,by show ys.length=rows.length;omega,λr hr=>?_⟩ F4.ho F4.hb F4.kp ?_
     ·have:=hrg r hr
      exact⟨this.1,λt ht=>by have:=this.2 t ht;show 0<=t/\t<(rows.length:Int);omega⟩
     ·simp only[Mach.D,Rep]
      refine⟨l3,_,rfl,jb,?_⟩
      simp only[Reps,Rep,Ii,Is]
      exact⟨⟨l1,ws,rfl,kA.tup _ _ (k3.tup _ _ e2),Reps.kp k4 (jd4 rows) hrs⟩,⟨l2,_,rfl,by rw[jd n23,jb],Reps.bools _ ys⟩⟩
end
local macro_rules
 | `(tactic| simp!)=>`(tactic| simp only [tSeq,tIfS,jdl,tOp,tVar,tC,tAsg,jc4,gSub,tRet,jdi,jdf,jdg,tAnd,tOr,tNot,jda,jdj,tB,jdd,rI0,rI,jb2,jb4,jb9,jca,jcn,jco,jcm,jcg,jb7,jb6,jb8,jb5,jck,jb1,jb0,jcb,jby,jci,jcz,jcj,jch,jcp,jc1,jcr,jcq,jcc,jcy,jb3,jcf,jcd,jce,Option.isSome_some,tBML,tCB,jde,tNil,tLst,tTup,jdn,tSl,jdk,jcw,jcs,iAny,jdb,jc5,jc7,jcv,jdc,tAug,ipI,jc2,jc9,jcu,jcx,jdh,jc8,hdl,jc0,jcl,tBM,jc3,Option.bind_some,Option.bind_none,Option.getD_some,L2.start,Ak,Au,List.length_cons,List.length_nil,List.cons_append,List.nil_append,Aq,At,List.replicate,List.getElem?_cons_zero,List.getElem?_cons_succ,List.set_cons_zero,List.set_cons_succ,Nat.reduceSub,Nat.reduceAdd,Nat.reduceLeDiff,Ap,V.int.injEq,V.bl.injEq,V.str.injEq,V.ref.injEq,HO.lst.injEq,HO.tup.injEq,Aw,A3,Ax,Is,Ii,jb,jct,jdm,jdp,jdq,A4,Az,Ao,Af,Ih,Ik,reduceIte,reduceCtorEq,jc6,tLam,jbz,jdx,jbz,jdr])
 | `(tactic| simp! [$ls,*])=>`(tactic| simp only [tSeq,tIfS,jdl,tOp,tVar,tC,tAsg,jc4,gSub,tRet,jdi,jdf,jdg,tAnd,tOr,tNot,jda,jdj,tB,jdd,rI0,rI,jb2,jb4,jb9,jca,jcn,jco,jcm,jcg,jb7,jb6,jb8,jb5,jck,jb1,jb0,jcb,jby,jci,jcz,jcj,jch,jcp,jc1,jcr,jcq,jcc,jcy,jb3,jcf,jcd,jce,Option.isSome_some,tBML,tCB,jde,tNil,tLst,tTup,jdn,tSl,jdk,jcw,jcs,iAny,jdb,jc5,jc7,jcv,jdc,tAug,ipI,jc2,jc9,jcu,jcx,jdh,jc8,hdl,jc0,jcl,tBM,jc3,Option.bind_some,Option.bind_none,Option.getD_some,L2.start,Ak,Au,List.length_cons,List.length_nil,List.cons_append,List.nil_append,Aq,At,List.replicate,List.getElem?_cons_zero,List.getElem?_cons_succ,List.set_cons_zero,List.set_cons_succ,Nat.reduceSub,Nat.reduceAdd,Nat.reduceLeDiff,Ap,V.int.injEq,V.bl.injEq,V.str.injEq,V.ref.injEq,HO.lst.injEq,HO.tup.injEq,Aw,A3,Ax,Is,Ii,jb,jct,jdm,jdp,jdq,A4,Az,Ao,Af,Ih,Ik,reduceIte,reduceCtorEq,jc6,tLam,jbz,jdx,jbz,jdr,$ls,*])
theorem BoxO.lst{o:HO}(h:BoxO o):∃xs,o=.lst xs:=h.lstB
structure SB(H:Hp)(b:Addr)(H':Hp):Prop where
 kp:Kp [b] H H'
 bx:∃o,H' b=some o/\BoxO o
theorem SB.take{H H':Hp}{b:Addr}{o1:HO}(h:SB H b H')(ho1:BoxO o1):SB H b (upd H' b o1):=by
 obtain⟨kp,o,hb,ho⟩:=h
 obtain⟨xs,rfl⟩:=ho.lst
 exact⟨kp.set hb (.inl (.head _)),o1,jb,ho1⟩
theorem SB.new{H H':Hp}{b p:Addr}{x:HO}(h:SB H b H')(hp:H' p=none):SB H b (upd H' p x):=by
 obtain⟨kp,o,hb,ho⟩:=h
 exact⟨kp.new hp,o,by rw[jd (jf hb hp)];exact hb,ho⟩
theorem SB.keep{H H' H2:Hp}{b:Addr}(h:SB H b H')(k:Kp [] H' H2):SB H b H2:=by
 obtain⟨kp,o,hb,ho⟩:=h
 exact⟨kp.trans (k.mono (by simp)),o,k.old _ _ hb Aj,ho⟩
theorem SB.trans{H H' H2:Hp}{b:Addr}(h:SB H b H')(k:SB H' b H2):SB H b H2:=⟨h.kp.trans k.kp,k.bx⟩
theorem SB.tq{H H':Hp}{b:Addr}(h:SB H b H'){w:Int}(w0:0<w)(w1:w<1073741824){Q:VK}{E:XK}(q:∀d H2,0<=d->d<w->SB H b H2->Kp [b] H' H2->Q (.int d) H2):je7 [.ref b,.int w] H' Q E:=by
 obtain⟨o,hb,ho⟩:=h.bx
 refine⟨b,w,o,rfl,hb,ho,w0,w1,λd o' d0 d1 ho'=>q d _ d0 d1 (h.take ho') ?_⟩
 obtain⟨xs,rfl⟩:=ho.lst
 exact(Kp.refl [b] H').set hb (.inl (.head _))
theorem SB.ne{H H':Hp}{b p:Addr}(h:SB H b H')(hp:H' p=none):p≠b:=by
 obtain⟨o,hb,_⟩:=h.bx
 exact(jf hb hp).symm
theorem ji4{xs:List V}{n:Nat}(h:n<=xs.length):cutV xs none (some (n:Int))=xs.take n:=by
 unfold cutV
 rw[HT.sIx_nat,HT.sIx_none,Nat.min_eq_left h]
 simp
theorem jh6(xs:List V)(n:Nat):cutV xs (some (n:Int)) none=xs.drop n:=by
 unfold cutV
 rw[HT.sIx_nat,HT.sIx_none]
 by_cases h:n<=xs.length
 ·rw[Nat.min_eq_left h]
  exact Iy (by simp)
 ·rw[Nat.min_eq_right (by omega),List.drop_eq_nil_of_le (Al _),List.drop_eq_nil_of_le (by omega)]
  simp
theorem jih{α:Type}(l:List α)(r:Nat)(x:α)(h:r<l.length)(i:Nat):(l.take r++[x]++l.drop (r+1))[i]?=if i=r then some x else l[i]?:=by
 have e:l.take r++[x]++l.drop (r+1)=l.set r x:=by rw[List.set_eq_take_append_cons_drop,Am h];simp
 rw[e,Wv]
 by_cases c:i=r
 ·subst c;rw[Am rfl,Am rfl,Am h]
 ·rw[Ah (O3 c),Ah c]
def jnd:Sp:=λvs H Q _=>∃(b p a1 a2:Addr)(us:List V)(m:Mach)(o:HO),vs=[.ref b,.ref p]/\H b=some o/\BoxO o/\MA H m p a1 a2 us/\Mach.Ok m 33 /\
 ∀(q c1 c2:Addr)(ws:List V)(m':Mach)(o':HO)(H':Hp),m'.z=m.z->Mach.Ok m' 33->BoxO o'->H' b=some o'->Kp [b] H H'->MA H' m' q c1 c2 ws->Q (.ref q) H'
structure TChg(mg:Str->Option Value)(ft:Addr):Prop where
 n_len:mg "len"=none
 n_list:mg "list"=none
 n_tuple:mg "tuple"=none
 m0z:mg "_law_take"=some (.ref ft)
section
variable{P:Program}{w:World}{K:PySem.W.Frag}{mg:Str->Option Value}{base:Heap}
abbrev yo:Stmt:=top 28
theorem yw:FnScope ["_law_box_here","_law_machine_here","_law_letters_here","_law_moves","_law_yes","_law_room","_law_row"] ["_law_box_here","_law_machine_here"] (jh yo):=⟨rfl,rfl,rfl,by decide +kernel,rfl,by decide +kernel,by decide +kernel⟩
theorem ok__law_changed{f ft:Addr}{fd fdt:FuncData}(F:Fun K "_law_changed" "_law_changed" yo f fd)(T:TChg mg ft)(F0z:Fun K "_law_take" "_law_take" kn ft fdt)(b0z:Binds K fdt ["_law_box_here","_law_wide"] [])
  (G0z:FnOk P w K mg base CX0 1 ft fdt ["_law_box_here","_law_wide"] je7):FnOk P w K mg base CX0 2 f fd ["_law_box_here","_law_machine_here"] jnd:=by
 refine F.ok yw (λvs H Q E h=>?_) (λcdv A outer s H vs Q E hr h=>?_)
 ·obtain⟨b,p,a1,a2,us,m,o,rfl,_⟩:=h
  rfl
 ·obtain⟨b,p,a1,a2,us,m,o,rfl,hb,ho,M,ok,k⟩:=h
  have hu:=hr.units
  have hsz:sizeLine=16777216:=Iw
  have n1:=ok.n1
  have nh:=ok.nh
  have yl:=ok.yl
  refine exQ (jg (zq (qpv 1) (jaf (n:=3) rfl (ku (jv (i:=2) yw.nd rfl (by ac_rfl)) (ku (jv (i:=3) yw.nd rfl (by ac_rfl)) (ku (jv (i:=4) yw.nd rfl (by ac_rfl)) z0))) (K:=K) rfl))
  (jg (jk (i:=5) yw.nd rfl (by ac_rfl) (jm G0z (hr.mono (by decide)) rfl T.m0z F0z.kp b0z .nil jy (ja (qpv 0) (ja (jn j4 (by rfl) T.n_len ke (ja (qpv 4) jc)) jc))))
  (jg (ki (jr (yh hu) (jm G0z (hr.mono (by decide)) rfl T.m0z F0z.kp b0z .nil jy (ja (qpv 0) (ja je jc))) je (jz _)) (jj (jx (j9 (ja (qpv 2) (ja (qpv 3) (ja (jo jao (jo jao (zo (ja8 (K:=K) rfl) (qpv 4) z6 (z7 (qpv 5))) (j9 (ja (jbt (ji ix_U (qpv 4) (qpv 5) (λ_ _=>rfl))) jc))) (zo (ja8 (K:=K) rfl) (qpv 4) (z7 (jo kh (qpv 5) je)) z6)) jc)))))) j8)
  (jg (jk (i:=6) yw.nd rfl (by ac_rfl) (ju (zr rfl) (by rfl) T.n_list zn (ja (ji ix_U (qpv 3) (qpv 5) (λ_ _=>rfl)) jc)))
  (jg (zq (jm G0z (hr.mono (by decide)) rfl T.m0z F0z.kp b0z .nil jy (ja (qpv 0) (ja (jn j4 (by rfl) T.n_len ke (ja (qpv 4) jc)) jc))) (jap (qpv 6) (jm G0z (hr.mono (by decide)) rfl T.m0z F0z.kp b0z .nil jy (ja (qpv 0) (ja (jn j4 (by rfl) T.n_len ke (ja (qpv 6) jc)) jc))) jhm))
  (jj (jx (j9 (ja (qpv 2) (ja (jo jao (jo jao (zo (ja8 (K:=K) rfl) (qpv 3) z6 (z7 (qpv 5))) (j9 (ja (ju yg (by rfl) T.n_tuple y8 (ja (qpv 6) jc)) jc))) (zo (ja8 (K:=K) rfl) (qpv 3) (z7 (jo kh (qpv 5) je)) z6)) (ja (qpv 4) jc))))))))))) ?_
  simp!
  refine⟨p,_,rfl,SqT.of M.t0,rfl,⟨_,_,rfl,⟨_,_,rfl,⟨_,_,rfl,rfl,?_⟩⟩⟩⟩
  simp! [M.t2]
  have S0:SB H b H:=⟨Kp.refl _ _,o,hb,ho⟩
  refine S0.tq (by rw[Aa];omega) (by rw[Aa];omega) λd H1 d0 d1 S1 _=>?_
  obtain⟨r,rfl⟩:∃r:Nat,d=r:=⟨d.toNat,by omega⟩
  rw[Aa]at d1
  have rn:r<m.mv.length:=by omega
  have S1':=S1
  refine S1.tq (by omega) (by omega) λd2 H2 _ _ S2 _=>?_
  have M2:=M.kp S2.kp
  simp!
  refine ite2 (λ_=>?_) (λ_=>?_)
  ·refine rSlV.tup M2.t2 λp1 H3 h1 k1=>?_
   rw[ji4 (by rw[Aa];omega)]at h1
   have M3:=M2.kp k1
   refine⟨_,by rw[M3.t2];rfl,_,je5 ok rn,_,rfl,by omega,λp2 hp2=>?_⟩
   have k2:Kp [] H3 (upd H3 p2 (.tup [.bl !yy m r])):=(Kp.refl [] H3).new hp2
   refine⟨p1,p2,_,[.bl !yy m r],rfl,rfl,k2.tup _ _ h1,jb,by simp;omega,λp3 H4 k3 h3=>?_⟩
   have k13:=(k1.trans k2).trans k3
   refine rSlV.tup (k13.tup _ _ M2.t2) λp4 H5 h4 k4=>?_
   rw[show((r:Int)+1)=((r+1:Nat):Int)from rfl,jh6]at h4
   refine⟨p3,p4,_,_,rfl,rfl,k4.tup _ _ h3,h4,by simp;omega,λp5 H6 k5 h5=>⟨by omega,λq hq=>?_⟩⟩
   have k6:Kp [] H6 (upd H6 q (.tup [.str m.z,.ref a1,.ref p5])):=(Kp.refl [] H6).new hq
   have kZ:Kp [] H2 _:=((k13.trans k4).trans k5).trans k6
   have SZ:=S2.keep kZ
   obtain⟨o',ob,oo⟩:=SZ.bx
   have MZ:=M2.kp kZ
   refine k q a1 p5 us ⟨m.z,m.mv,m.ye.take r++[!yy m r]++m.ye.drop (r+1)⟩ o' _ rfl ⟨ok.let4,ok.n1,ok.nh,?_,ok.row⟩ oo ob SZ.kp ⟨jb,MZ.t1,?_,M.rl,MZ.rw⟩
   ·show(m.ye.take r++[!yy m r]++m.ye.drop (r+1)).length=m.mv.length
    simp;omega
   ·rw[k6.tup _ _ h5]
    simp[List.map_take,List.map_drop]
  ·obtain⟨rr,er,hrr⟩:=M2.rw r rn
   have rowl:(m.mv.getD r []).length=m.z.length:=(ok.row _ (jex m.mv r [] rn)).1
   have rowt:=(ok.row _ (jex m.mv r [] rn)).2
   have z1:=ok.let4.lo
   have z4:=ok.let4.hi
   refine⟨us,by rw[M2.t1];rfl,.ref rr,jdv er,?_⟩
   simp! [hrr]
   intro pl hpl
   have kl:Kp [] H2 (upd H2 pl (.lst ((m.mv.getD r []).map V.int))):=(Kp.refl [] H2).new hpl
   have S3:=S2.keep kl
   have M3:=M2.kp kl
   have epl:upd H2 pl (.lst ((m.mv.getD r []).map V.int)) pl=some (.lst ((m.mv.getD r []).map V.int)):=jb
   have nbl:pl≠b:=S2.ne hpl
   have hpl0:H pl=none:=S2.kp.free hpl
   generalize upd H2 pl (.lst ((m.mv.getD r []).map V.int))=H3 at S3 M3 epl⊢
   refine⟨_,by rw[M3.t2];rfl,?_⟩
   refine S3.tq (by rw[Aa];omega) (by rw[Aa];omega) λd4 H4 d40 d41 S4 k4=>?_
   rw[Aa]at d41
   have epl:=k4.old _ _ epl (by simpa using nbl)
   simp! [epl]
   refine S4.tq (by rw[Aa];omega) (by rw[Aa];omega) λd5 H5 d50 d51 S5 k5=>?_
   rw[Aa]at d51
   have epl:=k5.old _ _ epl (by simpa using nbl)
   obtain⟨x,rfl⟩:∃x:Nat,d5=x:=⟨d5.toNat,by omega⟩
   simp! [epl]
   have xl:x<(m.mv.getD r []).length:=by omega
   refine⟨x,jhv (by rw[Aa];exact xl),?_⟩
   have es:((m.mv.getD r []).map V.int).set x (.int d4)=((m.mv.getD r []).set x d4).map V.int:=by rw[List.map_set]
   rw[es]
   have k6:Kp [pl] H5 (upd H5 pl (.lst (((m.mv.getD r []).set x d4).map V.int))):=(Kp.refl [pl] H5).set epl (.inl (.head _))
   have S6:SB H b (upd H5 pl (.lst (((m.mv.getD r []).set x d4).map V.int))):=by
    obtain⟨kk,o5,ob,oo⟩:=S5
    exact⟨kk.set epl (.inr hpl0),o5,by rw[jd nbl.symm];exact ob,oo⟩
   have e6:upd H5 pl (.lst (((m.mv.getD r []).set x d4).map V.int)) pl=some (.lst (((m.mv.getD r []).set x d4).map V.int)):=jb
   generalize upd H5 pl (.lst (((m.mv.getD r []).set x d4).map V.int))=H6 at k6 S6 e6⊢
   have M6:=M.kp S6.kp
   have ul:us.length=m.mv.length:=M.rl
   refine rSlV.tup M6.t1 λp1 H7 h1 k7=>?_
   rw[ji4 (by omega)]at h1
   refine jd1 (k7.old _ _ e6 Aj) λpr hpr=>⟨by omega,λp2 hp2=>?_⟩
   have k8:Kp [] H7 (upd H7 pr (.tup (((m.mv.getD r []).set x d4).map V.int))):=(Kp.refl [] H7).new hpr
   have epr:upd H7 pr (.tup (((m.mv.getD r []).set x d4).map V.int)) pr=some (.tup (((m.mv.getD r []).set x d4).map V.int)):=jb
   generalize upd H7 pr (.tup (((m.mv.getD r []).set x d4).map V.int))=H8 at hp2 k8 epr⊢
   have k9:Kp [] H8 (upd H8 p2 (.tup [.ref pr])):=(Kp.refl [] H8).new hp2
   refine⟨p1,p2,_,[.ref pr],rfl,rfl,k9.tup _ _ (k8.tup _ _ h1),jb,by simp;omega,λp3 H9 k10 h3=>?_⟩
   have kA:=((k7.trans k8).trans k9).trans k10
   refine rSlV.tup (kA.tup _ _ M6.t1) λp4 H10 h4 k11=>?_
   rw[show((r:Int)+1)=((r+1:Nat):Int)from rfl,jh6]at h4
   refine⟨p3,p4,_,_,rfl,rfl,k11.tup _ _ h3,h4,by simp;omega,λp5 H11 k12 h5=>⟨by omega,λq hq=>?_⟩⟩
   have k13:Kp [] H11 (upd H11 q (.tup [.str m.z,.ref p5,.ref a2])):=(Kp.refl [] H11).new hq
   have kB:=((k9.trans k10).trans k11).trans (k12.trans k13)
   have kZ:=(k7.trans k8).trans kB
   have SZ:=S6.keep kZ
   obtain⟨o',ob,oo⟩:=SZ.bx
   have MZ:=M6.kp kZ
   refine k q p5 a2 (us.take r++[V.ref pr]++us.drop (r+1)) ⟨m.z,m.mv.take r++[(m.mv.getD r []).set x d4]++m.mv.drop (r+1),m.ye⟩ o' _ rfl ?_ oo ob SZ.kp ⟨jb,k13.tup _ _ h5,MZ.t2,?_,λi hi=>?_⟩
   ·have ll:(m.mv.take r++[(m.mv.getD r []).set x d4]++m.mv.drop (r+1)).length=m.mv.length:=by simp;omega
    refine⟨ok.let4,by show 1<=List.length _;rw[ll];omega,by show List.length _<=33;rw[ll];exact nh,by show m.ye.length=List.length _;rw[ll];exact yl,λw hw=>?_⟩
    show w.length=m.z.length/\∀t∈w,0<=t/\t<(((m.mv.take r++[(m.mv.getD r []).set x d4]++m.mv.drop (r+1)).length:Nat):Int)
    rw[ll]
    rcases A0.mp hw with hw|hw
    ·rcases A0.mp hw with hw|hw
     ·exact ok.row w (Ui hw)
     ·rw[Ai.mp hw]
      refine⟨by rw[Wi];exact rowl,λt ht=>?_⟩
      rcases List.mem_or_eq_of_mem_set ht with h|h
      ·exact rowt t h
      ·omega
    ·exact ok.row w (Oz hw)
   ·show(us.take r++[V.ref pr]++us.drop (r+1)).length=(m.mv.take r++[(m.mv.getD r []).set x d4]++m.mv.drop (r+1)).length
    simp;omega
   ·have i9:i<m.mv.length:=by
     have:(m.mv.take r++[(m.mv.getD r []).set x d4]++m.mv.drop (r+1)).length=m.mv.length:=by simp;omega
     have hi:i<(m.mv.take r++[(m.mv.getD r []).set x d4]++m.mv.drop (r+1)).length:=hi
     omega
    show ∃c,(us.take r++[V.ref pr]++us.drop (r+1))[i]?=some (.ref c)/\upd H11 q _ c=some (.tup (((m.mv.take r++[(m.mv.getD r []).set x d4]++m.mv.drop (r+1)).getD i []).map V.int))
    rw[Ag,jih us r _ (by omega),jih m.mv r _ rn]
    by_cases c:i=r
    ·rw[Am c,Am c]
     exact⟨pr,rfl,kB.tup _ _ epr⟩
    ·rw[Ah c,Ah c,<-Ag]
     exact MZ.rw i i9
end
local macro_rules
 | `(tactic| simp!)=>`(tactic| simp only [tSeq,tIfS,jdl,tOp,tVar,tC,tAsg,jc4,gSub,tRet,jdi,jdf,jdg,tAnd,tOr,tNot,jda,jdj,tB,jdd,rI0,rI,jb2,jb4,jb9,jca,jcn,jco,jcm,jcg,jb7,jb6,jb8,jb5,jck,jb1,jb0,jcb,jby,jci,jcz,jcj,jch,jcp,jc1,jcr,jcq,jcc,jcy,jb3,jcf,jcd,jce,Option.isSome_some,tBML,tCB,jde,tNil,tLst,tTup,jdn,tSl,jdk,jcw,jcs,iAny,jdb,jc5,jc7,jcv,jdc,tAug,ipI,jc2,jc9,jcu,jcx,jdh,jc8,hdl,jc0,jcl,tBM,jc3,Option.bind_some,Option.bind_none,Option.getD_some,L2.start,Ak,Au,List.length_cons,List.length_nil,List.cons_append,List.nil_append,Aq,At,List.replicate,List.getElem?_cons_zero,List.getElem?_cons_succ,List.set_cons_zero,List.set_cons_succ,Nat.reduceSub,Nat.reduceAdd,Nat.reduceLeDiff,Ap,V.int.injEq,V.bl.injEq,V.str.injEq,V.ref.injEq,HO.lst.injEq,HO.tup.injEq,Aw,A3,Ax,Is,Ii,jb,jct,jdm,jdp,jdq,A4,Az,Ao,Af,Ih,Ik,reduceIte,reduceCtorEq,jc6,tLam,jbz,jdx,jbz,jdr])
 | `(tactic| simp! [$ls,*])=>`(tactic| simp only [tSeq,tIfS,jdl,tOp,tVar,tC,tAsg,jc4,gSub,tRet,jdi,jdf,jdg,tAnd,tOr,tNot,jda,jdj,tB,jdd,rI0,rI,jb2,jb4,jb9,jca,jcn,jco,jcm,jcg,jb7,jb6,jb8,jb5,jck,jb1,jb0,jcb,jby,jci,jcz,jcj,jch,jcp,jc1,jcr,jcq,jcc,jcy,jb3,jcf,jcd,jce,Option.isSome_some,tBML,tCB,jde,tNil,tLst,tTup,jdn,tSl,jdk,jcw,jcs,iAny,jdb,jc5,jc7,jcv,jdc,tAug,ipI,jc2,jc9,jcu,jcx,jdh,jc8,hdl,jc0,jcl,tBM,jc3,Option.bind_some,Option.bind_none,Option.getD_some,L2.start,Ak,Au,List.length_cons,List.length_nil,List.cons_append,List.nil_append,Aq,At,List.replicate,List.getElem?_cons_zero,List.getElem?_cons_succ,List.set_cons_zero,List.set_cons_succ,Nat.reduceSub,Nat.reduceAdd,Nat.reduceLeDiff,Ap,V.int.injEq,V.bl.injEq,V.str.injEq,V.ref.injEq,HO.lst.injEq,HO.tup.injEq,Aw,A3,Ax,Is,Ii,jb,jct,jdm,jdp,jdq,A4,Az,Ao,Af,Ih,Ik,reduceIte,reduceCtorEq,jc6,tLam,jbz,jdx,jbz,jdr,$ls,*])
theorem jhx(z:Str):(revS z).length=z.length:=by simp[revS,Str.length]
theorem Letters.rev{z:Str}{n:Nat}(h:Letters z n):Letters (revS z) n:=by
 have e:(revS z).cps.toList=z.cps.toList.reverse:=by simp[revS]
 exact⟨by rw[jhx];exact h.lo,by rw[jhx];exact h.hi,λc hc=>h.az c (by rw[e,Oe]at hc;exact hc),by rw[e];exact(O0 _).nodup_iff.mpr h.nd⟩
def jne:Sp:=λvs H Q _=>∃(b p a1 a2:Addr)(us:List V)(m:Mach)(o:HO)(n:Nat),vs=[.ref b,.ref p,.int (n:Int)]/\H b=some o/\BoxO o/\MA H m p a1 a2 us/\Rep H (.ref p) m.D/\Mach.Ok m n/\n<=30 /\
 ∀(q c1 c2:Addr)(ws:List V)(m':Mach)(H':Hp),Mach.Ok m' 33->SB H b H'->MA H' m' q c1 c2 ws->Q (.ref q) H'
structure TOth(mg:Str->Option Value)(ft fl fm fc fg:Addr):Prop where
 m0z:mg "_law_take"=some (.ref ft)
 m3z:mg "_law_letters"=some (.ref fl)
 m1z:mg "_law_machine"=some (.ref fm)
 m9z:mg "_law_copied"=some (.ref fc)
 m8z:mg "_law_changed"=some (.ref fg)
theorem Mach.Ok.le{m:Mach}{n n':Nat}(h:Mach.Ok m n)(l:n<=n'):Mach.Ok m n':=⟨h.let4,h.n1,Io h.nh l,h.yl,h.row⟩
section
variable{P:Program}{w:World}{K:PySem.W.Frag}{mg:Str->Option Value}{base:Heap}
abbrev yx:Stmt:=top 29
theorem jaa:FnScope ["_law_box_here","_law_machine_here","_law_most","_law_turn","_law_other_here"] ["_law_box_here","_law_machine_here","_law_most"] (jh yx):=⟨rfl,rfl,rfl,by decide +kernel,rfl,by decide +kernel,by decide +kernel⟩
theorem ok__law_other{f ft fl fm fc fg:Addr}{fd fdt fdl fdm fdc fdg:FuncData}(F:Fun K "_law_other" "_law_other" yx f fd)(T:TOth mg ft fl fm fc fg)(F0z:Fun K "_law_take" "_law_take" kn ft fdt)(b0z:Binds K fdt ["_law_box_here","_law_wide"] [])
  (G0z:FnOk P w K mg base CX0 1 ft fdt ["_law_box_here","_law_wide"] je7) (F3z:Fun K "_law_letters" "_law_letters" yc fl fdl) (b3z:Binds K fdl ["_law_box_here","_law_most"] []) (G3z:FnOk P w K mg base CX0 2 fl fdl ["_law_box_here","_law_most"] jf4)
  (F1z:Fun K "_law_machine" "_law_machine" kj fm fdm) (b1z:Binds K fdm ["_law_box_here","_law_letters_here","_law_most"] []) (G1z:FnOk P w K mg base CX0 2 fm fdm ["_law_box_here","_law_letters_here","_law_most"] jf5)
  (F9z:Fun K "_law_copied" "_law_copied" km fc fdc) (b9z:Binds K fdc ["_law_box_here","_law_machine_here","_law_most"] []) (G9z:FnOk P w K mg base CX0 2 fc fdc ["_law_box_here","_law_machine_here","_law_most"] jji)
  (F8z:Fun K "_law_changed" "_law_changed" yo fg fdg) (b8z:Binds K fdg ["_law_box_here","_law_machine_here"] []) (G8z:FnOk P w K mg base CX0 2 fg fdg ["_law_box_here","_law_machine_here"] jnd):FnOk P w K mg base CX0 3 f fd ["_law_box_here","_law_machine_here","_law_most"] jne:=by
 refine F.ok jaa (λvs H Q E h=>?_) (λcdv A outer s H vs Q E hr h=>?_)
 ·obtain⟨b,p,a1,a2,us,m,o,n,rfl,_⟩:=h
  rfl
 ·obtain⟨b,p,a1,a2,us,m,o,n,rfl,hb,ho,M,rep,ok,n9,k⟩:=h
  have hu:=hr.units
  have hsz:sizeLine=16777216:=Iw
  have n1:=ok.n1
  have nh:=ok.nh
  refine exQ (jg (jk (i:=3) jaa.nd rfl (by ac_rfl) (jm G0z (hr.mono (by decide)) rfl T.m0z F0z.kp b0z .nil jy (ja (qpv 0) (ja je jc))))
  (jg (ki (jr (yh hu) (qpv 3) je (jz _)) (jj (jx (jm G1z (hr.mono (by decide)) rfl T.m1z F1z.kp b1z .nil jy (ja (qpv 0) (ja (ji ix_U (qpv 1) je (λ_ _=>rfl)) (ja (qpv 2) jc)))))) j8)
  (jg (ki (jr (yh hu) (qpv 3) je (jz _)) (jj (jx (jm G1z (hr.mono (by decide)) rfl T.m1z F1z.kp b1z .nil jy (ja (qpv 0) (ja (jm G3z (hr.mono (by decide)) rfl T.m3z F3z.kp b3z .nil jy (ja (qpv 0) (ja je jc))) (ja (qpv 2) jc)))))) j8)
  (jg (ki (jr (yh hu) (qpv 3) je (jz _)) (jj (jx (jo jao (j9 (ja (qpe_revT (ji ix_U (qpv 1) je (λ_ _=>rfl))) jc)) (zo (ja8 (K:=K) rfl) (qpv 1) (z7 je) z6)))) j8)
  (jg (jk (i:=4) jaa.nd rfl (by ac_rfl) (jm G9z (hr.mono (by decide)) rfl T.m9z F9z.kp b9z .nil jy (ja (qpv 0) (ja (qpv 1) (ja je jc)))))
  (jg (ki (jr jbv (qpv 3) je (jz _)) (jj (jx (jm G8z (hr.mono (by decide)) rfl T.m8z F8z.kp b8z .nil jy (ja (qpv 0) (ja (qpv 4) jc))))) j8)
  (jj (jx (qpv 4))))))))) ?_
  simp!
  have S0:SB H b H:=⟨Kp.refl _ _,o,hb,ho⟩
  refine S0.tq (by omega) (by omega) λd H1 d0 d1 S1 _=>?_
  have M1:=M.kp S1.kp
  simp! [M1.t0]
  obtain⟨o1,hb1,ho1⟩:=S1.bx
  have z4:=ok.let4.hi
  refine ite2 (λ_=>?_) (λ_=>ite2 (λ_=>?_) (λ_=>ite2 (λ_=>?_) (λ_=>?_)))
  ·refine⟨b,m.z,n,o1,rfl,hb1,ho1,ok.let4,by omega,by omega,λq m' o' H2 ez ok' ho' hb' k2 rp=>?_⟩
   obtain⟨c1,c2,ws,M2⟩:=Mach.opened rp
   exact k q c1 c2 ws m' H2 (ok'.le (by omega)) (S1.trans ⟨k2,o',hb',ho'⟩) M2
  ·refine⟨b,4,o1,rfl,hb1,ho1,by omega,by omega,λz o2 H2 hz ho2 hb2 k2=>?_⟩
   refine⟨b,z,n,o2,rfl,hb2,ho2,hz,by omega,by omega,λq m' o' H3 ez ok' ho' hb' k3 rp=>?_⟩
   obtain⟨c1,c2,ws,M2⟩:=Mach.opened rp
   exact k q c1 c2 ws m' H3 (ok'.le (by omega)) (S1.trans ⟨k2.trans k3,o',hb',ho'⟩) M2
  ·refine⟨by omega,by omega,λp1 hp1=>?_⟩
   have k1:Kp [] H1 (upd H1 p1 (.tup [.str (revS m.z)])):=(Kp.refl [] H1).new hp1
   refine rSlV.tup (k1.tup _ _ M1.t0) λp2 H2 h2 k2=>?_
   refine⟨p1,p2,_,_,rfl,rfl,k2.tup _ _ jb,h2,by simp[cutV];omega,λq H3 k3 h3=>?_⟩
   have kz:=(k1.trans k2).trans k3
   have M3:=M1.kp kz
   refine k q a1 a2 us ⟨revS m.z,m.mv,m.ye⟩ H3 ⟨ok.let4.rev,ok.n1,by show m.mv.length<=33;omega,ok.yl,λr hr=>⟨by show r.length=(revS m.z).length;rw[jhx];exact(ok.row r hr).1,(ok.row r hr).2⟩⟩ (S1.keep kz) ⟨?_,M3.t1,M3.t2,M3.rl,M3.rw⟩
   rw[h3];rfl
  ·refine⟨b,p,m,o1,rfl,hb1,ho1,Rep.kp S1.kp m.only rep,ok.le n9,λq m' o' H2 ez ok' ho' hb' k2 rp=>?_⟩
   obtain⟨c1,c2,ws,M2⟩:=Mach.opened rp
   have S2:=S1.trans ⟨k2,o',hb',ho'⟩
   refine ite2 (λ_=>?_) (λ_=>k q c1 c2 ws m' H2 ok' S2 M2)
   exact⟨b,q,c1,c2,ws,m',o',rfl,hb',ho',M2,ok',λq' c1' c2' ws' m2 o2 H3 _ ok2 ho2 hb2 k3 M3=>k q' c1' c2' ws' m2 H3 ok2 (S2.trans ⟨k3,o2,hb2,ho2⟩) M3⟩
end
local macro_rules
 | `(tactic| simp!)=>`(tactic| simp only [tSeq,tIfS,jdl,tOp,tVar,tC,tAsg,jc4,gSub,tRet,jdi,jdf,jdg,tAnd,tOr,tNot,jda,jdj,tB,jdd,rI0,rI,jb2,jb4,jb9,jca,jcn,jco,jcm,jcg,jb7,jb6,jb8,jb5,jck,jb1,jb0,jcb,jby,jci,jcz,jcj,jch,jcp,jc1,jcr,jcq,jcc,jcy,jb3,jcf,jcd,jce,Option.isSome_some,tBML,tCB,jde,tNil,tLst,tTup,jdn,tSl,jdk,jcw,jcs,iAny,jdb,jc5,jc7,jcv,jdc,tAug,ipI,jc2,jc9,jcu,jcx,jdh,jc8,hdl,jc0,jcl,tBM,jc3,Option.bind_some,Option.bind_none,Option.getD_some,L2.start,Ak,Au,List.length_cons,List.length_nil,List.cons_append,List.nil_append,Aq,At,List.replicate,List.getElem?_cons_zero,List.getElem?_cons_succ,List.set_cons_zero,List.set_cons_succ,Nat.reduceSub,Nat.reduceAdd,Nat.reduceLeDiff,Ap,V.int.injEq,V.bl.injEq,V.str.injEq,V.ref.injEq,HO.lst.injEq,HO.tup.injEq,Aw,A3,Ax,Is,Ii,jb,jct,jdm,jdp,jdq,A4,Az,Ao,Af,Ih,Ik,reduceIte,reduceCtorEq,jc6,tLam,jbz,jdx,jbz,jdr])
 | `(tactic| simp! [$ls,*])=>`(tactic| simp only [tSeq,tIfS,jdl,tOp,tVar,tC,tAsg,jc4,gSub,tRet,jdi,jdf,jdg,tAnd,tOr,tNot,jda,jdj,tB,jdd,rI0,rI,jb2,jb4,jb9,jca,jcn,jco,jcm,jcg,jb7,jb6,jb8,jb5,jck,jb1,jb0,jcb,jby,jci,jcz,jcj,jch,jcp,jc1,jcr,jcq,jcc,jcy,jb3,jcf,jcd,jce,Option.isSome_some,tBML,tCB,jde,tNil,tLst,tTup,jdn,tSl,jdk,jcw,jcs,iAny,jdb,jc5,jc7,jcv,jdc,tAug,ipI,jc2,jc9,jcu,jcx,jdh,jc8,hdl,jc0,jcl,tBM,jc3,Option.bind_some,Option.bind_none,Option.getD_some,L2.start,Ak,Au,List.length_cons,List.length_nil,List.cons_append,List.nil_append,Aq,At,List.replicate,List.getElem?_cons_zero,List.getElem?_cons_succ,List.set_cons_zero,List.set_cons_succ,Nat.reduceSub,Nat.reduceAdd,Nat.reduceLeDiff,Ap,V.int.injEq,V.bl.injEq,V.str.injEq,V.ref.injEq,HO.lst.injEq,HO.tup.injEq,Aw,A3,Ax,Is,Ii,jb,jct,jdm,jdp,jdq,A4,Az,Ao,Af,Ih,Ik,reduceIte,reduceCtorEq,jc6,tLam,jbz,jdx,jbz,jdr,$ls,*])
structure TTo(K:PySem.W.Frag)(mg:Str->Option Value)(fc fp cE cO cL cR cT cN D NO:Addr):Prop where
 n_int:mg "int"=none
 n_isinstance:mg "isinstance"=none
 m14z:mg "compared"=some (.ref fc)
 m16z:mg "pairs_hold"=some (.ref fp)
 m_CalmError:mg "CalmError"=some (.ref cE)
 xt_CalmError:XT K cE
 m_OtherLetters:mg "OtherLetters"=some (.ref cO)
 m_BadLetters:mg "BadLetters"=some (.ref cL)
 m_BadRoom:mg "BadRoom"=some (.ref cR)
 m_BadText:mg "BadText"=some (.ref cT)
 m_NoLetter:mg "NoLetter"=some (.ref cN)
 c_OtherLetters:XC K cO D NO
 eD:cE=D
 xi:XI K cO
 k0:PySem.W.kitOne K (.ref cO) (.ref cL)=some false
 k1:PySem.W.kitOne K (.ref cO) (.ref cR)=some false
 k2:PySem.W.kitOne K (.ref cO) (.ref cT)=some false
 k3:PySem.W.kitOne K (.ref cO) (.ref cN)=some false
def spTo(Pt cO:Addr):Sp:=λvs H Q _=>∃(p p' a1 a2 b1 b2:Addr)(us us':List V)(m m':Mach)(N N' wy:Nat),vs=[.ref p,.ref p',.int (wy:Int)]/\MA H m p a1 a2 us/\MA H m' p' b1 b2 us'/\Mach.Ok m N/\Mach.Ok m' N'/\N<=100/\N'<=100/\m.mv.length*m'.mv.length<=1000/\wy<=2/\TabOk H Pt WQ /\
 (m.z=m'.z->wy=0/\∀(q:Addr)(H':Hp)(r:Option (List Nat))(ks:List (List Int)),RCm m m' r ks->RsV H H' q m r ks->Kp [Pt] H H'->TabOk H' Pt WQ->Q (.ref q) H') /\
 (m.z≠m'.z->∀H',Kp [Pt] H H'->TabOk H' Pt WQ->Q (.str (Str.ofString "letters")) H')
section
variable{P:Program}{w:World}{K:PySem.W.Frag}{mg:Str->Option Value}{base:Heap}
abbrev y9:Stmt:=top 30
theorem zj:FnScope ["_law_one","_law_other_here","_law_way","_law_found","e","_law_good"] ["_law_one","_law_other_here","_law_way"] (jh y9):=⟨rfl,rfl,rfl,by decide +kernel,rfl,by decide +kernel,by decide +kernel⟩
theorem ok__law_told{f fc fp cE cO cL cR cT cN D NO Pt:Addr}{fd fdc fdp:FuncData}(F:Fun K "_law_told" "_law_told" y9 f fd)(T:TTo K mg fc fp cE cO cL cR cT cN D NO)
  (F14z:Fun K "compared" "compared" ze fc fdc) (b14z:Binds K fdc ["one","other"] []) (G14z:FnOk P w K mg base (CXE P w) 6 fc fdc ["one","other"] (spCp Pt cO))
  (F16z:Fun K "pairs_hold" "pairs_hold" y3 fp fdp) (b16z:Binds K fdp ["one","other","pairs"] []) (G16z:FnOk P w K mg base (CXE P w) 2 fp fdp ["one","other","pairs"] (spPH cO)):FnOk P w K mg base CX0 7 f fd ["_law_one","_law_other_here","_law_way"] (spTo Pt cO):=by
 refine F.ok zj (λvs H Q E h=>?_) (λcdv A outer s H vs Q E hr h=>?_)
 ·obtain⟨p,p',a1,a2,b1,b2,us,us',m,m',N,N',wy,rfl,_⟩:=h
  rfl
 ·obtain⟨p,p',a1,a2,b1,b2,us,us',m,m',N,N',wy,rfl,M,M',ok1,ok2,n9,n9',nn,wy2,tb,k,kE⟩:=h
  have hu:=hr.units
  have hsz:sizeLine=16777216:=Iw
  refine exQ (jg (jk (i:=3) zj.nd rfl (by ac_rfl) jba)
  (jg (qps_tryI (i:=3) (j:=4) rfl (jr (yh hu) (qpv 2) je (jz _)) G14z (hr.mono (by decide)) rfl T.m14z F14z.kp b14z (ja (qpv 0) (ja (qpv 1) jc)) G16z (hr.mono (by decide)) rfl T.m16z F16z.kp b16z (ja (qpv 0) (ja (qpv 1) (ja (jo za (ya (ja (j9 (ja je (ja je jc))) jc)) (jo jbw (qpv 2) je)) jc))) T.xt_CalmError rfl T.m_CalmError (λA' h1 h2 h3 h4=>(jg (jk (i:=5) zj.nd rfl (by ac_rfl) (qpe_and (jn (jbk (K:=K) rfl) (by rfl) T.n_isinstance jas (ja (qpv 4) (ja (jai (v:=.ref _) rfl T.m_OtherLetters rfl) jc))) (qpe_one (jbt (jn (jbk (K:=K) rfl) (by rfl) T.n_isinstance jas (ja (qpv 4) (ja (j9 (ja (jai (v:=.ref _) rfl T.m_BadLetters rfl) (ja (jai (v:=.ref _) rfl T.m_BadRoom rfl) (ja (jai (v:=.ref _) rfl T.m_BadText rfl) (ja (jai (v:=.ref _) rfl T.m_NoLetter rfl) jc))))) jc)))))))
  (jj (jk (i:=3) zj.nd rfl (by ac_rfl) (ji ix_U (ya (ja yk (ja yk jc))) (ju jaw (by rfl) T.n_int jbj (ja (qpv 5) jc)) (λ_ _=>rfl)))))) ⟨rfl,rfl⟩ rfl (λ_ _ z=>z) zj.nd rfl rfl rfl rfl)
  (jj (jx (qpv 3))))) ?_
  simp!
  unfold jnf
  simp!
  have ka:PySem.W.kitAny K (.ref cO) ([cL,cR,cT,cN].map Value.ref)=some false:=by
   simp only[Ak,Au,PySem.W.kitAny,T.k0,T.k1,T.k2,T.k3]
  generalize hts:tSeq (tAsg (jda _ _) _) _=ts
  have hd:∀(v2:V)(H':Hp),m.z≠m'.z->Kp [] H H'->hdl K cE 4 ts {nx:=tRet (tVar 3) {nx:=λx H'=>Q V.non H',rt:=Q},rt:=Q} [some (V.ref p),some (V.ref p'),some v2,some V.non,none,none] (.ref cO) none H':=by
   intro v2 H' ne kp
   refine⟨cO,D,NO,rfl,T.c_OtherLetters,.inl T.eD,λe he=>?_⟩
   rw[<-hts]
   have k1:=kp.new (o:=ExW e cO none) he
   have ea1:ExAtW (upd H' e (ExW e cO none)) e cO:=⟨none,jb,λd z=>by cases z⟩
   simp!
   refine⟨cO,ea1,D,NO,T.c_OtherLetters,T.xi,true,.inl jmn,?_⟩
   simp!
   refine⟨by omega,λt ht=>?_⟩
   have k2:=k1.new (o:=.tup [.ref cL,.ref cR,.ref cT,.ref cN]) ht
   have ea2:ExAtW (upd (upd H' e (ExW e cO none)) t (.tup [.ref cL,.ref cR,.ref cT,.ref cN])) e cO:=⟨none,by rw[jd (jf jb ht),jb],λd z=>by cases z⟩
   refine⟨cO,ea2,D,NO,T.c_OtherLetters,T.xi,false,.inr ⟨[cL,cR,cT,cN],jb,ka⟩,?_⟩
   simp!
   refine⟨by omega,λl hl=>?_⟩
   have k3:=k2.new (o:=.lst [V.str (Str.ofString "other"),V.str (Str.ofString "letters")]) hl
   exact kE ne _ (k3.mono (by simp)) (tb.kp k3 (by simp) (by simp))
  by_cases h0:(wy:Int)=0
  ·have w0:wy=0:=by omega
   simp only[h0,decide_true]
   exact⟨p,p',a1,a2,b1,b2,us,us',m,m',N,N',rfl,M,M',ok1,ok2,n9,n9',nn,tb,λez=>(k ez).2,λne H' kp=>hd _ H' ne kp⟩
  ·simp only[h0,decide_false]
   have ne:m.z≠m'.z:=λez=>h0 (by have:=(k ez).1;omega)
   refine⟨by omega,λt1 ht1=>⟨by omega,λt2 ht2=>⟨by omega,by omega,by omega,λt3 ht3=>?_⟩⟩⟩
   have k3:=(((Kp.refl [] H).new ht1).new ht2).new (o:=.lst (List.replicate ((wy:Int)-1).toNat [V.ref t1]).flatten) ht3
   exact⟨p,p',m.z,m'.z,_,_,_,_,_,rfl,k3.tup _ _ M.t0,k3.tup _ _ M'.t0,ne,λH' kp=>hd _ H' ne (k3.trans kp)⟩
abbrev yj:Stmt:=top 31
theorem sc__law_turned:FnScope ["_law_due"] ["_law_due"] (jh yj):=⟨rfl,rfl,rfl,by decide +kernel,rfl,by decide +kernel,by decide +kernel⟩
structure TTu(mg:Str->Option Value):Prop where
 n_sorted:mg "sorted"=none
def spTu:Sp:=λvs H Q _=>∃(q:Addr)(H0:Hp)(m:Mach)(r:Option (List Nat))(ks:List (List Int)),vs=[.ref q]/\RsV H0 H q m r ks/\(r=none->∀k∈ks,∃x y,k=[x,y]) /\
 ∀(q':Addr)(H':Hp)(ks':List (List Int)),(r=none->SrI ks'/\ks'.Perm (ks.map kT))->RsV H H' q' m r ks'->Kp [] H H'->Q (.ref q') H'
theorem ok__law_turned{f:Addr}{fd:FuncData}(F:Fun K "_law_turned" "_law_turned" yj f fd)(T:TTu mg):FnOk P w K mg base CX0 1 f fd ["_law_due"] spTu:=by
 refine F.ok sc__law_turned (λvs H Q E h=>?_) (λcdv A outer s H vs Q E hr h=>?_)
 ·obtain⟨q,H0,m,r,ks,rfl,_⟩:=h
  rfl
 ·obtain⟨q,H0,m,r,ks,rfl,rv,kk,k⟩:=h
  have hu:=hr.units
  have hsz:sizeLine=16777216:=Iw
  refine exQ (jg (ki (jr (yh hu) (ji ix_U (qpv 0) je (λ_ _=>rfl)) yk (jz _)) (jj (jx (qpv 0))) j8)
  (jj (jx (j9 (ja yk (ja (jn jag (by rfl) T.n_sorted jav (ja (jah rfl (jel (sc:=jh yj) (N:=["_law_due"]) (Nc:=["_law_here","_law_there"]) (js:=[none,none]) (by decide +kernel)) (z5 (K:=K) (ji ix_U (qpv 0) je (λ_ _=>rfl)) rfl) (λ_ _ _ _=>(jaf (n:=2) rfl (ku (jv (i:=0) (show List.Nodup [("_law_here":Str),("_law_there":Str)]from by decide +kernel) rfl (by ac_rfl)) (ku (jv (i:=1) (show List.Nodup [("_law_here":Str),("_law_there":Str)]from by decide +kernel) rfl (by ac_rfl)) z0)) (K:=K) rfl)) (λ_ _ _ _=>(j9 (ja (qpv 1) (ja (qpv 0) jc))))) jc)) jc)))))) ?_
  cases r with
  |some t =>
   obtain⟨tl,e⟩:=rv
   simp! [e]
   exact k q H [] (λz=>by cases z) ⟨tl,e⟩ (Kp.refl [] H)
  |none =>
   obtain⟨l,bs,e,h0,el,bl,pb⟩:=rv
   simp! [e]
   rw[Ah (by decide),el]
   intro Dl hDl
   have kl:=Ou pb
   have nl:l≠Dl:=jf el hDl
   obtain⟨J,hJ⟩:∃J:Nat->L2.St->Hp->Prop,∀i σ H',J i σ H'↔(∃(bs2:List Addr)(v0 v1:Option V),σ=[v0,v1]/\H' l=some (.lst (bs.map V.ref))/\H' Dl=some (.lst (bs2.map V.ref))/\Paired (λb k=>H' b=some (.tup (k.map V.int))) bs2 ((ks.take i).map kT)/\Paired (λb k=>H' b=some (.tup (k.map V.int))) bs ks/\Kp [] H H'):=⟨_,λ_ _ _=>O7⟩
   have k1:Kp [] H (upd H Dl (.lst [])):=(Kp.refl [] H).new hDl
   refine jfz (xs:=bs.map V.ref) J ((hJ _ _ _).mpr ⟨[],none,none,rfl,k1.old _ _ el Aj,jb,.nil,Paired.mapP pb λ_ _ e=>k1.tup _ _ e,k1⟩) (λi σ H' _ h=>let⟨_,_,_,_,h1,_⟩:=(hJ _ _ _).mp h;h1) (λi x σ H' hx h=>?_) (λσ H' h=>?_)
   ·obtain⟨bs2,v0,v1,rfl,f1,f2,p2,pb,kp⟩:=(hJ _ _ _).mp h
    rw[A9]at hx
    cases eb:bs[i]? with
    |none=>rw[eb]at hx;cases hx
    |some b =>
     rw[eb]at hx
     cases hx
     have il:=(Ab.mp eb).1
     have ek:ks[i]?=some (ks[i]'(by omega)):=Ic (by omega)
     generalize ks[i]'(by omega)=k0 at ek
     have hb:=jar pb eb ek
     obtain⟨x,y,rfl⟩:=kk rfl k0 (Ay ek)
     refine⟨b,_,rfl,SqT.of hb,rfl,⟨_,_,rfl,⟨_,_,rfl,rfl,?_⟩⟩⟩
     simp!
     unfold je4
     simp!
     have l2:=Ou p2
     rw[Aa,Oi]at l2
     refine⟨by omega,λt ht=>?_⟩
     have kt:Kp [] H' (upd H' t (.tup [.int y,.int x])):=(Kp.refl [] H').new ht
     have f2':=kt.old _ _ f2 Aj
     rw[f2']
     refine⟨_,rfl,by rw[Aa];omega,(hJ _ _ _).mpr ⟨bs2++[t],_,_,rfl,by rw[jd nl];exact kt.old _ _ f1 Aj,by rw[jb,I0];rfl,?_,?_,(kp.trans kt).set f2' (.inr hDl)⟩⟩
     ·have kd:Kp [Dl] (upd H' t (.tup [.int y,.int x])) (upd (upd H' t (.tup [.int y,.int x])) Dl (.lst (bs2.map V.ref++[.ref t]))):=(Kp.refl [Dl] _).set f2' (.inl (.head _))
      rw[Ww,ek,I0]
      refine jan ?_ (Paired.mapP p2 ?_)
      ·exact kd.tup _ _ jb
      ·exact λ_ _ e=>kd.tup _ _ (kt.tup _ _ e)
     ·have kd:Kp [Dl] (upd H' t (.tup [.int y,.int x])) (upd (upd H' t (.tup [.int y,.int x])) Dl (.lst (bs2.map V.ref++[.ref t]))):=(Kp.refl [Dl] _).set f2' (.inl (.head _))
      exact Paired.mapP pb λ_ _ e=>kd.tup _ _ (kt.tup _ _ e)
   ·obtain⟨bs2,v0,v1,rfl,f1,f2,p2,pb,kp⟩:=(hJ _ _ _).mp h
    rw[Aa,kl,Ux]at p2
    have l2:=Ou p2
    rw[Aa]at l2
    have ek:=jaz p2
    refine⟨Dl,bs2,jeo H',rfl,f2,λb hb=>?_,by omega,λpp bs' hpp hp so=>⟨by omega,λq' hq'=>?_⟩⟩
    ·obtain⟨k0,hk0,e⟩:=zx p2 b hb
     rw[je6 e]
     refine⟨e,?_⟩
     obtain⟨r0,_,rfl⟩:=Ij.mp hk0
     unfold kT;simp
    ·have kA:=(Kp.refl [] H').new (o:=.lst (bs'.map V.ref)) hpp
     have kB:=kA.new (o:=.tup [.str (Str.ofString "alike"),.ref pp]) hq'
     have pl:=hp.length_eq
     have el':(upd (upd H' pp (.lst (bs'.map V.ref))) q' (.tup [.str (Str.ofString "alike"),.ref pp])) pp=some (.lst (bs'.map V.ref)):=by
      rw[jd (jf jb hq'),jb]
     refine k q' _ (bs'.map (jeo H')) (λ_=>⟨so,by rw[<-ek];exact hp.map _⟩) ⟨pp,bs',jb,?_,el',by omega,?_⟩ (kp.trans kB)
     ·exact kp.free hpp
     ·exact Paired.mapP (jak λb hb=>let⟨k0,_,e⟩:=zx p2 b (hp.mem_iff.mp hb);⟨k0,e⟩) λ_ _ e=>kB.tup _ _ e
end
local macro_rules
 | `(tactic| simp!)=>`(tactic| simp only [tSeq,tIfS,jdl,tOp,tVar,tC,tAsg,jc4,gSub,tRet,jdi,jdf,jdg,tAnd,tOr,tNot,jda,jdj,tB,jdd,rI0,rI,jb2,jb4,jb9,jca,jcn,jco,jcm,jcg,jb7,jb6,jb8,jb5,jck,jb1,jb0,jcb,jby,jci,jcz,jcj,jch,jcp,jc1,jcr,jcq,jcc,jcy,jb3,jcf,jcd,jce,Option.isSome_some,tBML,tCB,jde,tNil,tLst,tTup,jdn,tSl,jdk,jcw,jcs,iAny,jdb,jc5,jc7,jcv,jdc,tAug,ipI,jc2,jc9,jcu,jcx,jdh,jc8,hdl,jc0,jcl,tBM,jc3,Option.bind_some,Option.bind_none,Option.getD_some,L2.start,Ak,Au,List.length_cons,List.length_nil,List.cons_append,List.nil_append,Aq,At,List.replicate,List.getElem?_cons_zero,List.getElem?_cons_succ,List.set_cons_zero,List.set_cons_succ,Nat.reduceSub,Nat.reduceAdd,Nat.reduceLeDiff,Ap,V.int.injEq,V.bl.injEq,V.str.injEq,V.ref.injEq,HO.lst.injEq,HO.tup.injEq,Aw,A3,Ax,Is,Ii,jb,jct,jdm,jdp,jdq,A4,Az,Ao,Af,Ih,Ik,reduceIte,reduceCtorEq,jc6,tLam,jbz,jdx,jbz,jdr])
 | `(tactic| simp! [$ls,*])=>`(tactic| simp only [tSeq,tIfS,jdl,tOp,tVar,tC,tAsg,jc4,gSub,tRet,jdi,jdf,jdg,tAnd,tOr,tNot,jda,jdj,tB,jdd,rI0,rI,jb2,jb4,jb9,jca,jcn,jco,jcm,jcg,jb7,jb6,jb8,jb5,jck,jb1,jb0,jcb,jby,jci,jcz,jcj,jch,jcp,jc1,jcr,jcq,jcc,jcy,jb3,jcf,jcd,jce,Option.isSome_some,tBML,tCB,jde,tNil,tLst,tTup,jdn,tSl,jdk,jcw,jcs,iAny,jdb,jc5,jc7,jcv,jdc,tAug,ipI,jc2,jc9,jcu,jcx,jdh,jc8,hdl,jc0,jcl,tBM,jc3,Option.bind_some,Option.bind_none,Option.getD_some,L2.start,Ak,Au,List.length_cons,List.length_nil,List.cons_append,List.nil_append,Aq,At,List.replicate,List.getElem?_cons_zero,List.getElem?_cons_succ,List.set_cons_zero,List.set_cons_succ,Nat.reduceSub,Nat.reduceAdd,Nat.reduceLeDiff,Ap,V.int.injEq,V.bl.injEq,V.str.injEq,V.ref.injEq,HO.lst.injEq,HO.tup.injEq,Aw,A3,Ax,Is,Ii,jb,jct,jdm,jdp,jdq,A4,Az,Ao,Af,Ih,Ik,reduceIte,reduceCtorEq,jc6,tLam,jbz,jdx,jbz,jdr,$ls,*])
theorem apl(a b:Str):(a++b).length=a.length+b.length:=by
 show(a.cps++b.cps).size=_
 simp[Str.length]
theorem jno{i:Int}(h:i.natAbs<=2000000000):(Str.ofString (toString i)).length<=21:=by
 have b:(2000000001:Nat)<10^20:=by decide
 have hb:i.natAbs<10^20:=by omega
 have e:=int_text_length_le10 (a:=i) (k:=20) (by decide) hb
 rw[PySem.ofString_length]
 omega
theorem joe{i:Int}(h:i.natAbs<=2000000000):(PyData.int i).showable=true:=by
 simp only[PyData.showable,Ao]
 by_cases h1:i.natAbs=0
 ·rw[h1];decide
 ·have b:(2000000001:Nat)<2^40:=by decide
  have hb:i.natAbs<2^40:=by omega
  have:=(Nat.log2_lt (k:=40) h1).mpr hb
  omega
def Sh(d:PyData)(n k:Nat):Prop:=d.showable=true/\d.hasDict=false/\d.depth<=k/\d.shown.length<=n
theorem jjg{α:Type}{f:α->PyData}{n k:Nat}:∀{l:List α},(∀x∈l,Sh (f x) n k)->PyData.showableAll (l.map f)=true/\PyData.hasDictAll (l.map f)=false/\PyData.depthAll (l.map f)<=k/\((PyData.shownAll (l.map f)).map (·.length)).sum<=l.length*n/\(PyData.shownAll (l.map f)).length=l.length
 |[],_=>by simp[PyData.showableAll,PyData.hasDictAll,PyData.depthAll,PyData.shownAll]
 |x::l,h=>by
  obtain⟨a1,a2,a3,a4⟩:=h x (.head _)
  obtain⟨b1,b2,b3,b4,b5⟩:=jjg (l:=l) λy hy=>h y (.tail _ hy)
  simp only[Ak,PyData.showableAll,PyData.hasDictAll,PyData.depthAll,PyData.shownAll,a1,a2,b1,b2,List.sum_cons,List.length_cons,b5,Ya]
  refine⟨by simp,by simp,?_,?_,by simp⟩
  ·first|omega|exact Nat.max_le.mpr ⟨a3,b3⟩
  ·omega
theorem jl7{α:Type}{f:α->PyData}{n k:Nat}{l:List α}(h:∀x∈l,Sh (f x) n k):Sh (.tuple (l.map f)) (l.length*(n+2)+4) (k+1):=by
 obtain⟨b1,b2,b3,b4,b5⟩:=jjg h
 refine⟨by simpa[PyData.showable]using b1,by simpa[PyData.hasDict]using b2,by simp[PyData.depth];omega,?_⟩
 have e:(PyData.tuple (l.map f)).shown=tupleText (PyData.shownAll (l.map f)):=by simp only[PyData.shown]
 rw[e]
 have h2:=PySem.StrLaws.join_length_le (Str.ofString ", ") (PyData.shownAll (l.map f))
 have h3:(Str.ofString ", ").length=2:=by decide +kernel
 have h4:(Str.ofString "(").length=1:=by decide +kernel
 have h5:(Str.ofString (if(PyData.shownAll (l.map f)).length == 1 then",)"else")")).length<=2:=by
  split <;> decide +kernel
 unfold tupleText
 rw[apl,apl]
 rw[h3,b5]at h2
 have:l.length*(n+2)=l.length*n+l.length*2:=Nat.mul_add _ _ _
 omega
theorem Sh.mono{d:PyData}{n n' k k':Nat}(h:Sh d n k)(h1:n<=n')(h2:k<=k'):Sh d n' k':=⟨h.1,h.2.1,Io h.2.2.1 h2,Io h.2.2.2 h1⟩
theorem jfb{H:Hp}{v:V}{d:PyData}{Q:VK}{n k:Nat}(r:Rep H v d)(s:Sh d n k)(hn:n<=10000000)(hk:k<=60)(h:Q (.str d.shown) H):jjc [v] H Q:=by
 have hsz:sizeLine=16777216:=Iw
 exact⟨d,r,s.1,s.2.1,Io s.2.2.1 hk,by have:=s.2.2.2;omega,h⟩
theorem jos{α:Type}{f:α->PyData}{n k:Nat}{l:List α}(h:∀x∈l,Sh (f x) n k):Sh (.list (l.map f)) (l.length*(n+2)+4) (k+1):=by
 obtain⟨b1,b2,b3,b4,b5⟩:=jjg h
 refine⟨by simpa[PyData.showable]using b1,by simpa[PyData.hasDict]using b2,by simp[PyData.depth];omega,?_⟩
 have e:(PyData.list (l.map f)).shown=listText (PyData.shownAll (l.map f)):=by simp only[PyData.shown]
 rw[e]
 have h2:=listText_len_le (PyData.shownAll (l.map f))
 rw[b5]at h2
 have:l.length*(n+2)=l.length*n+l.length*2:=Nat.mul_add _ _ _
 omega
def rsD(m:Mach)(r:Option (List Nat))(ks:List (List Int)):PyData:=match r with
 |some t=>.tuple [.str (Str.ofString "part"),.str (txt m t)]
 |none=>.tuple [.str (Str.ofString "alike"),.list (ks.map rowD)]
theorem jif{H:Hp}:∀k:List Int,Reps H (k.map V.int) (k.map PyData.int)
 |[]=>trivial
 |_::k=>⟨rfl,jif k⟩
theorem jfc{H0 H:Hp}{q:Addr}{m:Mach}{r:Option (List Nat)}{ks:List (List Int)}(h:RsV H0 H q m r ks):Rep H (.ref q) (rsD m r ks):=by
 cases r with
 |some t=>exact⟨q,_,rfl,h.2,rfl,rfl,trivial⟩
 |none =>
  obtain⟨l,bs,e,_,el,hh,pb⟩:=h
  clear hh
  refine⟨q,_,rfl,e,rfl,⟨l,_,rfl,el,?_⟩,trivial⟩
  clear el
  induction pb with
  |nil=>exact trivial
  |cons a _ ih=>exact⟨⟨_,_,rfl,a,jif _⟩,ih⟩
theorem jjk{z:Str}{n:Nat}(hz:z.length<=n)(ha:∀c∈z.cps.toList,c<200):Sh (.str z) (10*n+2) 1:=by
 refine⟨rfl,rfl,by simp[PyData.depth],?_⟩
 have:=PySem.StrLaws.reprText_len z λc hc=>by have:=ha c hc;omega
 show(reprText z).length<=_
 omega
theorem jl3{m:Mach}{N:Nat}{r:Option (List Nat)}{ks:List (List Int)}(ok:Mach.Ok m N)(hl:∀t,r=some t->t.length<=1000)(hn:r=none->ks.length<=1000/\∀k∈ks,∃x y:Nat,k=[(x:Int),(y:Int)]/\x<=100/\y<=100):Sh (rsD m r ks) 1000000 10:=by
 have two:∀(a b:PyData),Sh a 400000 5->Sh b 400000 5->Sh (.tuple [a,b]) 1000000 10:=λa b ha hb=>by
  have:=jl7 (f:=id) (n:=400000) (k:=5) (l:=[a,b]) λx hx=>by
   rcases Il.mp hx with rfl|hx
   ·exact ha
   ·rw[Ai.mp hx];exact hb
  exact this.mono (by simp) (by omega)
 cases r with
 |some t =>
  refine two _ _ ((jjk (n:=10) (by decide +kernel) (by decide +kernel)).mono (by omega) (by omega)) ((jjk (n:=1000) (by rw[jhz];exact hl t rfl) λc hc=>?_).mono (by omega) (by omega))
  have e:(txt m t).cps.toList=t.map λa=>m.z.cps.toList.getD a 0:=by simp[txt,toS]
  rw[e]at hc
  obtain⟨a,_,rfl⟩:=Ij.mp hc
  by_cases h:a<m.z.cps.toList.length
  ·rw[Ag,Ic h]
   have:=ok.let4.az _ (List.getElem_mem h)
   show m.z.cps.toList[a]<200
   omega
  ·rw[Ag,List.getElem?_eq_none (by omega)]
   decide
 |none =>
  obtain⟨kl,hk⟩:=hn rfl
  refine two _ _ ((jjk (n:=10) (by decide +kernel) (by decide +kernel)).mono (by omega) (by omega)) ((jos (n:=100) (k:=2) λk hk'=>?_).mono (by omega) (by omega))
  obtain⟨x,y,rfl,hx,hy⟩:=hk k hk'
  refine(jl7 (f:=PyData.int) (n:=21) (k:=1) (l:=[(x:Int),(y:Int)]) λt ht=>?_).mono (by simp) (by omega)
  have:t.natAbs<=100:=by
   rcases Il.mp ht with rfl|ht
   ·omega
   ·rw[Ai.mp ht];omega
  exact⟨joe (by omega),rfl,by simp[PyData.depth],jno (by omega)⟩
theorem RC.pairs{m m':Mach}{N N':Nat}{r:Option (List Nat)}{ks:List (List Int)}(h:RCm m m' r ks)(ok:Mach.Ok m N)(ok':Mach.Ok m' N')(ez:m.z=m'.z)(n9:N<=100)(n9':N'<=100)(e:r=none):∀k∈ks,∃x y:Nat,k=[(x:Int),(y:Int)]/\x<=100/\y<=100:=λk hk=>by
 obtain⟨w,hw,rfl⟩:=((h.pr e).mem k).mp hk
 have h1:=jej ok ok.n1 (w:=w) hw
 have h2:=jej ok' ok'.n1 (w:=w) (ez▸hw)
 have:=ok.nh
 have:=ok'.nh
 exact⟨_,_,rfl,by show run (dl m) 0 w<=100;omega,by show run (dl m') 0 w<=100;omega⟩
local macro_rules
 | `(tactic| simp!)=>`(tactic| simp only [tSeq,tIfS,jdl,tOp,tVar,tC,tAsg,jc4,gSub,tRet,jdi,jdf,jdg,tAnd,tOr,tNot,jda,jdj,tB,jdd,rI0,rI,jb2,jb4,jb9,jca,jcn,jco,jcm,jcg,jb7,jb6,jb8,jb5,jck,jb1,jb0,jcb,jby,jci,jcz,jcj,jch,jcp,jc1,jcr,jcq,jcc,jcy,jb3,jcf,jcd,jce,Option.isSome_some,tBML,tCB,jde,tNil,tLst,tTup,jdn,tSl,jdk,jcw,jcs,iAny,jdb,jc5,jc7,jcv,jdc,tAug,ipI,jc2,jc9,jcu,jcx,jdh,jc8,hdl,jc0,jcl,tBM,jc3,Option.bind_some,Option.bind_none,Option.getD_some,L2.start,Ak,Au,List.length_cons,List.length_nil,List.cons_append,List.nil_append,Aq,At,List.replicate,List.getElem?_cons_zero,List.getElem?_cons_succ,List.set_cons_zero,List.set_cons_succ,Nat.reduceSub,Nat.reduceAdd,Nat.reduceLeDiff,Ap,V.int.injEq,V.bl.injEq,V.str.injEq,V.ref.injEq,HO.lst.injEq,HO.tup.injEq,Aw,A3,Ax,Is,Ii,jb,jct,jdm,jdp,jdq,A4,Az,Ao,Af,Ih,Ik,reduceIte,reduceCtorEq,jc6,tLam,jbz,jdx,jbz,jdr])
 | `(tactic| simp! [$ls,*])=>`(tactic| simp only [tSeq,tIfS,jdl,tOp,tVar,tC,tAsg,jc4,gSub,tRet,jdi,jdf,jdg,tAnd,tOr,tNot,jda,jdj,tB,jdd,rI0,rI,jb2,jb4,jb9,jca,jcn,jco,jcm,jcg,jb7,jb6,jb8,jb5,jck,jb1,jb0,jcb,jby,jci,jcz,jcj,jch,jcp,jc1,jcr,jcq,jcc,jcy,jb3,jcf,jcd,jce,Option.isSome_some,tBML,tCB,jde,tNil,tLst,tTup,jdn,tSl,jdk,jcw,jcs,iAny,jdb,jc5,jc7,jcv,jdc,tAug,ipI,jc2,jc9,jcu,jcx,jdh,jc8,hdl,jc0,jcl,tBM,jc3,Option.bind_some,Option.bind_none,Option.getD_some,L2.start,Ak,Au,List.length_cons,List.length_nil,List.cons_append,List.nil_append,Aq,At,List.replicate,List.getElem?_cons_zero,List.getElem?_cons_succ,List.set_cons_zero,List.set_cons_succ,Nat.reduceSub,Nat.reduceAdd,Nat.reduceLeDiff,Ap,V.int.injEq,V.bl.injEq,V.str.injEq,V.ref.injEq,HO.lst.injEq,HO.tup.injEq,Aw,A3,Ax,Is,Ii,jb,jct,jdm,jdp,jdq,A4,Az,Ao,Af,Ih,Ik,reduceIte,reduceCtorEq,jc6,tLam,jbz,jdx,jbz,jdr,$ls,*])
theorem jon{v:V}:Mono (tC v):=λσ H Q Q' h q=>h _ _ q
theorem RsV.kp{H0 H H':Hp}{q:Addr}{m:Mach}{r:Option (List Nat)}{ks:List (List Int)}{S:List Addr}(h:RsV H0 H q m r ks)(k:Kp S H H')(hS:∀l xs,H q=some (.tup [.str (Str.ofString "alike"),.ref l])->H l=some (.lst xs)->l∉S):RsV H0 H' q m r ks:=by
 cases r with
 |some t=>exact⟨h.1,k.tup _ _ h.2⟩
 |none =>
  obtain⟨l,bs,e,h0,el,bl,pb⟩:=h
  exact⟨l,bs,k.tup _ _ e,h0,k.old _ _ el (hS l _ e el),bl,Paired.mapP pb λ_ _ z=>k.tup _ _ z⟩
theorem RsV.kl{H0 H:Hp}{q:Addr}{m:Mach}{r:Option (List Nat)}{ks:List (List Int)}(h:RsV H0 H q m r ks)(e:r=none):ks.length<=1000:=by
 subst e
 obtain⟨l,bs,_,_,_,bl,pb⟩:=h
 have:=Ou pb
 omega
theorem jfd{H:Hp}{Pt:Addr}{qual:Str}(tb:TabOk H Pt qual){l:Addr}{xs:List V}(e:H l=some (.lst xs)):l∉[Pt]:=λh=>by
 obtain⟨_,e2,_⟩:=tb
 rw[Ai.mp h,e2]at e
 cases e
theorem jo3{m m':Mach}(ez:m.z=m'.z)(r:Option (List Nat))(ks:List (List Int)):rsD m' r ks=rsD m r ks:=by
 cases r with
 |some t=>unfold rsD txt;rw[ez]
 |none=>rfl
theorem jgv{H:Hp}(z:Str):∀n,Reps H (List.replicate n (.str z)) (List.replicate n (.str z))
 |0=>trivial
 |n+1=>⟨rfl,jgv z n⟩
structure TRi(mg:Str->Option Value)(fp ft fu:Addr):Prop where
 n_range:mg "range"=none
 n_repr:mg "repr"=none
 m11z:mg "_law_pairs"=some (.ref fp)
 m2z:mg "_law_told"=some (.ref ft)
 m12z:mg "_law_turned"=some (.ref fu)
def spRi(Pt:Addr):Sp:=λvs H Q _=>∃(p p' a1 a2 b1 b2:Addr)(us us':List V)(m m':Mach)(N N':Nat),vs=[.ref p,.ref p']/\MA H m p a1 a2 us/\MA H m' p' b1 b2 us'/\Mach.Ok m N/\Mach.Ok m' N'/\N<=100/\N'<=100/\m.mv.length*m'.mv.length<=1000/\TabOk H Pt WQ /\
 ∀H',Kp [Pt] H H'->TabOk H' Pt WQ->Q (.bl true) H'
section
variable{P:Program}{w:World}{K:PySem.W.Frag}{mg:Str->Option Value}{base:Heap}
abbrev yu:Stmt:=top 32
theorem jab:FnScope ["_law_one","_law_other_here","_law_due","_law_found"] ["_law_one","_law_other_here"] (jh yu):=⟨rfl,rfl,rfl,by decide +kernel,rfl,by decide +kernel,by decide +kernel⟩
theorem ok__law_right{f fp ft fu Pt cO:Addr}{fd fdp fdt fdu:FuncData}(F:Fun K "_law_right" "_law_right" yu f fd)(T:TRi mg fp ft fu)
  (F11z:Fun K "_law_pairs" "_law_pairs" yt fp fdp) (b11z:Binds K fdp ["_law_one","_law_other_here"] []) (G11z:FnOk P w K mg base CX0 1 fp fdp ["_law_one","_law_other_here"] spPr)
  (F2z:Fun K "_law_told" "_law_told" y9 ft fdt) (b2z:Binds K fdt ["_law_one","_law_other_here","_law_way"] []) (G2z:FnOk P w K mg base CX0 7 ft fdt ["_law_one","_law_other_here","_law_way"] (spTo Pt cO))
  (F12z:Fun K "_law_turned" "_law_turned" yj fu fdu) (b12z:Binds K fdu ["_law_due"] []) (G12z:FnOk P w K mg base CX0 1 fu fdu ["_law_due"] spTu):FnOk P w K mg base CX0 8 f fd ["_law_one","_law_other_here"] (spRi Pt):=by
 refine F.ok jab (λvs H Q E h=>?_) (λcdv A outer s H vs Q E hr h=>?_)
 ·obtain⟨p,p',a1,a2,b1,b2,us,us',m,m',N,N',rfl,_⟩:=h
  rfl
 ·obtain⟨p,p',a1,a2,b1,b2,us,us',m,m',N,N',rfl,M,M',ok1,ok2,n9,n9',nn,tb,k⟩:=h
  have hu:=hr.units
  have hgd:=hr.gd
  have hsz:sizeLine=16777216:=Iw
  refine exQ (ym (ki (jr (zw hu) (ji ix_U (qpv 0) je (λ_ _=>rfl)) (ji ix_U (qpv 1) je (λ_ _=>rfl)) (jz _)) (jj (jx (zz (yh hu) (jo kh (jah rfl (jel (sc:=jh yu) (N:=["_law_one","_law_other_here","_law_due","_law_found"]) (Nc:=["_law_way","_law_one","_law_other_here"]) (js:=[none,some 0,some 1]) (by decide +kernel)) (yq rfl T.n_range (ja je jc)) (λ_ _ _ _=>(jv (i:=0) (show List.Nodup [("_law_way":Str),("_law_one":Str),("_law_other_here":Str)]from by decide +kernel) rfl (by ac_rfl))) (λ_ _ _ _=>(jm G2z (hr.mono (by decide)) rfl T.m2z F2z.kp b2z .nil jy (ja (qpv 1) (ja (qpv 2) (ja (qpv 0) jc)))))) (ya (ja (jm G2z (hr.mono (by decide)) rfl T.m2z F2z.kp b2z .nil jy (ja (qpv 1) (ja (qpv 0) (ja je jc)))) jc))) (jo za (ya (ja yk jc)) je) (jz _)))) j8)
  (jg (jk (i:=2) jab.nd rfl (by ac_rfl) (jm G11z (hr.mono (by decide)) rfl T.m11z F11z.kp b11z .nil jy (ja (qpv 0) (ja (qpv 1) jc))))
  (jg (jk (i:=3) jab.nd rfl (by ac_rfl) (jm G2z (hr.mono (by decide)) rfl T.m2z F2z.kp b2z .nil jy (ja (qpv 0) (ja (qpv 1) (ja je jc)))))
  (ym (ki (QW.pt (jbo (jr (zw hu) (jn (zk hgd hu) (by rfl) T.n_repr jae (ja (qpv 3) jc)) (jn (zk hgd hu) (by rfl) T.n_repr jae (ja (qpv 2) jc)) (jz _)) (jbd (jr (zw hu) (jn (zk hgd hu) (by rfl) T.n_repr jae (ja (jm G2z (hr.mono (by decide)) rfl T.m2z F2z.kp b2z .nil jy (ja (qpv 1) (ja (qpv 0) (ja je jc)))) jc)) (jn (zk hgd hu) (by rfl) T.n_repr jae (ja (jm G12z (hr.mono (by decide)) rfl T.m12z F12z.kp b12z .nil jy (ja (qpv 2) jc)) jc)) (jz _))))) (jj (jx jbl)) j8)
  (ym (ki (jr (yh hu) (ji ix_U (qpv 3) je (λ_ _=>rfl)) yk (jz _)) (jj (yi (yv Iu Iv yb (ji ix_U (qpv 3) je (λ_ _=>rfl)) (ja (j9 (ja je (ja je jc))) jc) (jnu (joo _) jon)))) j8)
  (jj (jx (zz (yh hu) (jn (zk hgd hu) (by rfl) T.n_repr jae (ja (jm G2z (hr.mono (by decide)) rfl T.m2z F2z.kp b2z .nil jy (ja (qpv 0) (ja (qpv 1) (ja je jc)))) jc)) (jn (zk hgd hu) (by rfl) T.n_repr jae (ja (qpv 2) jc)) (jz _))))))))) ?_
  simp! [M.t0,M'.t0]
  have nn':m'.mv.length*m.mv.length<=1000:=by rw[U7];exact nn
  obtain⟨X,hX⟩:∃X:L2.St->Hp->Prop,∀σ' H',X σ' H'↔(σ'=[some (.ref p),some (.ref p'),none,none]/\H=H'/\m.z=m'.z):=⟨_,λ_ _=>O7⟩
  refine⟨X,?_,λσ' H' hJ=>?_⟩
  ·simp! [M.t0,M'.t0]
   refine ite2 (λhne=>?_) (λheq=>(hX _ _).mpr ⟨rfl,rfl,by simpa using heq⟩)
   have ne:m.z≠m'.z:=by simpa using hne
   refine⟨by omega,by omega,λDl hDl=>?_⟩
   obtain⟨J,hJ⟩:∃J:Nat->L2.St->Hp->Prop,∀i σ H',J i σ H'↔(∃(v0:Option V),σ=[v0,some (.ref p),some (.ref p')]/\H' Dl=some (.lst (List.replicate i (.str (Str.ofString "letters"))))/\Kp [Pt] H H'/\TabOk H' Pt WQ):=⟨_,λ_ _ _=>O7⟩
   have k1:Kp [] H (upd H Dl (.lst [])):=(Kp.refl [] H).new hDl
   have nP:Dl≠Pt:=let⟨_,e,_⟩:=tb;(jf e hDl).symm
   refine jd7 J ((hJ _ _ _).mpr ⟨none,rfl,jb,k1.mono (by simp),tb.kp k1 (by simp) (by simp)⟩) (λi σ H' hi h=>?_) (λσ H' h=>?_)
   ·obtain⟨v0,rfl,e1,kp,tb'⟩:=(hJ _ _ _).mp h
    have hi:i<3:=hi
    unfold je4
    simp!
    rw[Int.zero_add]
    refine⟨p,p',a1,a2,b1,b2,us,us',m,m',N,N',i,rfl,M.kp kp,M'.kp kp,ok1,ok2,n9,n9',nn,by omega,tb',λez=>absurd ez ne,λ_ H2 k2 tb2=>?_⟩
    have e2:=k2.old _ _ e1 (by simpa using nP)
    show ∃ys,jec (H2 Dl)=some ys/\_
    rw[e2]
    have kd:Kp [Dl] H2 (upd H2 Dl (.lst (List.replicate i (.str (Str.ofString "letters"))++[.str (Str.ofString "letters")]))):=(Kp.refl [Dl] H2).set e2 (.inl (.head _))
    refine⟨_,rfl,by rw[List.length_replicate];omega,(hJ _ _ _).mpr ⟨_,rfl,by rw[jb,List.replicate_succ'],(kp.trans k2).set e2 (.inr hDl),tb2.kp kd (by simpa using nP.symm) (λc o e=>?_)⟩⟩
    intro hc
    rw[Ai.mp hc,e2]at e
    cases e
   ·obtain⟨v0,rfl,e1,kp,tb'⟩:=(hJ _ _ _).mp h
    refine⟨p',p,b1,b2,a1,a2,us',us,m',m,N',N,0,rfl,M'.kp kp,M.kp kp,ok2,ok1,n9',n9,nn',by omega,tb',λez=>absurd ez.symm ne,λ_ H2 k2 tb2=>⟨by omega,λt ht=>?_⟩⟩
    have e2:=k2.old _ _ e1 (by simpa using nP)
    have kt:Kp [] H2 (upd H2 t (.lst [.str (Str.ofString "letters")])):=(Kp.refl [] H2).new ht
    have e3:=kt.old _ _ e2 Aj
    have et:upd H2 t (.lst [.str (Str.ofString "letters")]) t=some (.lst [.str (Str.ofString "letters")]):=jb
    generalize upd H2 t (.lst [.str (Str.ofString "letters")])=H3 at kt e3 et⊢
    refine rAddW.lst e3 et (by simp;omega) λt2 ht2=>⟨by omega,λt3 ht3=>⟨by decide,by decide,by show 1*4<=sizeLine;omega,λt4 ht4=>?_⟩⟩
    have k2':=(Kp.refl [] H3).new (o:=.lst (List.replicate 3 (.str (Str.ofString "letters"))++[.str (Str.ofString "letters")])) ht2
    have k3:=k2'.new (o:=.lst [.str (Str.ofString "letters")]) ht3
    have k4:=k3.new (o:=.lst (List.replicate (Int.toNat 4) [V.str (Str.ofString "letters")]).flatten) ht4
    have kz:Kp [Pt] H _:=(kp.trans k2).trans ((kt.trans k4).mono (by simp))
    rw[jch]
    have n24:t2≠t3:=jf jb ht3
    have n25:t2≠t4:=jf (by rw[jd n24,jb]) ht4
    refine⟨.list (List.replicate 4 (.str (Str.ofString "letters"))),.list (List.replicate 4 (.str (Str.ofString "letters"))),⟨t2,List.replicate 4 (.str (Str.ofString "letters")),rfl,by rw[jd n25,jd n24,jb];rfl,jgv _ 4⟩,⟨t4,List.replicate 4 (.str (Str.ofString "letters")),rfl,by rw[jb];rfl,jgv _ 4⟩,by decide +kernel,by decide +kernel,?_⟩
    rw[show PyData.eqv (.list (List.replicate 4 (.str (Str.ofString "letters")))) (.list (List.replicate 4 (.str (Str.ofString "letters"))))=true from by decide +kernel]
    exact k _ kz (tb2.kp (kt.trans k4) (by simp) (by simp))
  ·obtain⟨rfl,rfl,ez⟩:=(hX _ _).mp hJ
   clear hJ hX
   simp!
   refine⟨p,p',a1,a2,b1,b2,us,us',m,m',N,N',rfl,M,M',ok1,ok2,n9,n9',nn,ez,λq1 H1 r ks rc tl rv1 k1=>?_⟩
   simp!
   refine⟨p,p',a1,a2,b1,b2,us,us',m,m',N,N',0,rfl,M.kp k1,M'.kp k1,ok1,ok2,n9,n9',nn,by omega,tb.kp k1 (by simp) (by simp),λ_=>⟨rfl,λq2 H2 r2 ks2 rc2 rv2 k2 tb2=>?_⟩,λne=>absurd ez ne⟩
   obtain⟨er,eks⟩:=rc.uniq rc2
   subst er
   have rsh:Sh (rsD m r ks) 1000000 10:=jl3 ok1 tl λz=>⟨rv1.kl z,rc.pairs ok1 ok2 ez n9 n9' z⟩
   have eD:rsD m r ks2=rsD m r ks:=by
    cases r with
    |some t=>rfl
    |none=>rw[eks rfl]
   have tb1:=tb.kp k1 (by simp) (by simp)
   have rv1':RsV H H2 q1 m r ks:=rv1.kp k2 λl xs _ e=>jfd tb1 e
   have tbx:=tb2
   obtain⟨X2,hX2⟩:∃X2:L2.St->Hp->Prop,∀σ' H',X2 σ' H'↔(σ'=[some (.ref p),some (.ref p'),some (.ref q1),some (.ref q2)]/\Kp [Pt] H2 H'/\TabOk H' Pt WQ):=⟨_,λ_ _=>O7⟩
   refine⟨X2,?_,λσ' H' hJ=>?_⟩
   ·simp!
    refine jfb (jfc rv2) (by rw[eD];exact rsh) (by omega) (by omega) ?_
    refine jfb (jfc rv1') rsh (by omega) (by omega) ?_
    rw[eD]
    simp!
    rw[Ah (by simp)]
    have kA:=(k1.mono (by simp):Kp [Pt] H H1).trans k2
    refine⟨p',p,b1,b2,a1,a2,us',us,m',m,N',N,0,rfl,M'.kp kA,M.kp kA,ok2,ok1,n9',n9,nn',by omega,tb2,λ_=>⟨rfl,λq3 H3 r3 ks3 rc3 rv3 k3 tb3=>?_⟩,λne=>absurd ez.symm ne⟩
    have e3:r=r3:=Rs2.uniq (ez▸rc.rs.turn:Rs2 (dl m') (dl m) (yy m') (yy m) m'.z.length r) rc3.rs
    subst e3
    have sh3:Sh (rsD m' r ks3) 1000000 10:=jl3 ok2 tl λz=>⟨rv3.kl z,rc3.pairs ok2 ok1 ez.symm n9' n9 z⟩
    refine jfb (jfc rv3) sh3 (by omega) (by omega) ?_
    refine⟨q1,H,m,r,ks,rfl,rv1'.kp k3 λl xs _ e=>jfd tb2 e,λz k0 hk0=>let⟨x,y,e,_⟩:=rc.pairs ok1 ok2 ez n9 n9' z k0 hk0;⟨_,_,e⟩,λq4 H4 ks4 h4 rv4 k4=>?_⟩
    have e4:rsD m r ks4=rsD m' r ks3:=by
     rw[jo3 ez]
     cases r with
     |some t=>rfl
     |none =>
      obtain⟨so,pm⟩:=h4 rfl
      have q1:=(rc.pr rfl).turn pm so
      rw[ez]at q1
      rw[q1.uniq (rc3.pr rfl)]
    refine jfb (jfc rv4) (by rw[e4];exact sh3) (by omega) (by omega) ?_
    rw[e4]
    simp!
    rw[Ah (by simp)]
    exact(hX2 _ _).mpr ⟨rfl,k3.trans (k4.mono (by simp)),tb3.kp k4 (by simp) (by simp)⟩
   ·obtain⟨rfl,k3,tb3⟩:=(hX2 _ _).mp hJ
    clear hJ hX2
    have kA:=((k1.mono (by simp):Kp [Pt] H H1).trans k2).trans k3
    have w1:=rv1'.kp k3 λl xs _ e=>jfd tb2 e
    have w2:=rv2.kp k3 λl xs _ e=>jfd tb2 e
    obtain⟨X3,hX3⟩:∃X3:L2.St->Hp->Prop,∀σ' H',X3 σ' H'↔(σ'=[some (.ref p),some (.ref p'),some (.ref q1),some (.ref q2)]/\Kp [Pt] H H'/\TabOk H' Pt WQ/\RsV H H' q1 m r ks):=⟨_,λ_ _=>O7⟩
    refine⟨X3,?_,λσ' H'' hJ=>?_⟩
    ·cases r with
     |some t =>
      simp! [w2.2]
      rw[Ah (by decide)]
      exact(hX3 _ _).mpr ⟨rfl,kA,tb3,w1⟩
     |none =>
      obtain⟨l2,bs2,f1,f0,f2,bl2,_⟩:=w2
      simp! [f1]
      refine⟨by rw[f2];rfl,by omega,λt ht=>?_⟩
      have kt:Kp [] H' (upd H' t (.tup [.int 0,.int 0])):=(Kp.refl [] H').new ht
      have f3:=kt.old _ _ f2 Aj
      rw[f3]
      have kd:Kp [l2] (upd H' t (.tup [.int 0,.int 0])) (upd (upd H' t (.tup [.int 0,.int 0])) l2 (.lst (bs2.map V.ref++[.ref t]))):=(Kp.refl [l2] _).set f3 (.inl (.head _))
      have nP:l2∉[Pt]:=jfd tb3 f2
      refine⟨_,rfl,by rw[Aa];omega,(hX3 _ _).mpr ⟨rfl,(kA.trans (kt.mono (by simp))).set f3 (.inr (k1.free f0)),(tb3.kp kt (by simp) (by simp)).kp kd (by simpa using λz=>nP (by simp[z])) (λc o e hc=>?_),(w1.kp kt (by simp)).kp kd λl xs e _=>?_⟩⟩
      ·rw[Ai.mp hc,f3]at e
       cases e
      ·obtain⟨l1,bs1,g1,_,g2,_⟩:=rv1
       have g3:=kt.tup _ _ (k3.tup _ _ (k2.tup _ _ g1))
       rw[g3]at e
       cases e
       intro hc
       rw[Ai.mp hc,f0]at g2
       cases g2
    ·obtain⟨rfl,kB,tb4,w4⟩:=(hX3 _ _).mp hJ
     clear hJ hX3
     simp!
     refine⟨p,p',a1,a2,b1,b2,us,us',m,m',N,N',0,rfl,M.kp kB,M'.kp kB,ok1,ok2,n9,n9',nn,by omega,tb4,λ_=>⟨rfl,λq5 H5 r5 ks5 rc5 rv5 k5 tb5=>?_⟩,λne=>absurd ez ne⟩
     obtain⟨er5,eks5⟩:=rc.uniq rc5
     subst er5
     have e5:rsD m r ks5=rsD m r ks:=by
      cases r with
      |some t=>rfl
      |none=>rw[eks5 rfl]
     refine jfb (jfc rv5) (by rw[e5];exact rsh) (by omega) (by omega) ?_
     refine jfb (jfc (w4.kp k5 λl xs _ e=>jfd tb4 e)) rsh (by omega) (by omega) ?_
     rw[e5]
     simp!
     have:=k H5 (kB.trans k5) tb5
     simpa using this
end
local macro_rules
 | `(tactic| simp!)=>`(tactic| simp only [tSeq,tIfS,jdl,tOp,tVar,tC,tAsg,jc4,gSub,tRet,jdi,jdf,jdg,tAnd,tOr,tNot,jda,jdj,tB,jdd,rI0,rI,jb2,jb4,jb9,jca,jcn,jco,jcm,jcg,jb7,jb6,jb8,jb5,jck,jb1,jb0,jcb,jby,jci,jcz,jcj,jch,jcp,jc1,jcr,jcq,jcc,jcy,jb3,jcf,jcd,jce,Option.isSome_some,tBML,tCB,jde,tNil,tLst,tTup,jdn,tSl,jdk,jcw,jcs,iAny,jdb,jc5,jc7,jcv,jdc,tAug,ipI,jc2,jc9,jcu,jcx,jdh,jc8,hdl,jc0,jcl,tBM,jc3,Option.bind_some,Option.bind_none,Option.getD_some,L2.start,Ak,Au,List.length_cons,List.length_nil,List.cons_append,List.nil_append,Aq,At,List.replicate,List.getElem?_cons_zero,List.getElem?_cons_succ,List.set_cons_zero,List.set_cons_succ,Nat.reduceSub,Nat.reduceAdd,Nat.reduceLeDiff,Ap,V.int.injEq,V.bl.injEq,V.str.injEq,V.ref.injEq,HO.lst.injEq,HO.tup.injEq,Aw,A3,Ax,Is,Ii,jb,jct,jdm,jdp,jdq,A4,Az,Ao,Af,Ih,Ik,reduceIte,reduceCtorEq,jc6,tLam,jbz,jdx,jbz,jdr])
 | `(tactic| simp! [$ls,*])=>`(tactic| simp only [tSeq,tIfS,jdl,tOp,tVar,tC,tAsg,jc4,gSub,tRet,jdi,jdf,jdg,tAnd,tOr,tNot,jda,jdj,tB,jdd,rI0,rI,jb2,jb4,jb9,jca,jcn,jco,jcm,jcg,jb7,jb6,jb8,jb5,jck,jb1,jb0,jcb,jby,jci,jcz,jcj,jch,jcp,jc1,jcr,jcq,jcc,jcy,jb3,jcf,jcd,jce,Option.isSome_some,tBML,tCB,jde,tNil,tLst,tTup,jdn,tSl,jdk,jcw,jcs,iAny,jdb,jc5,jc7,jcv,jdc,tAug,ipI,jc2,jc9,jcu,jcx,jdh,jc8,hdl,jc0,jcl,tBM,jc3,Option.bind_some,Option.bind_none,Option.getD_some,L2.start,Ak,Au,List.length_cons,List.length_nil,List.cons_append,List.nil_append,Aq,At,List.replicate,List.getElem?_cons_zero,List.getElem?_cons_succ,List.set_cons_zero,List.set_cons_succ,Nat.reduceSub,Nat.reduceAdd,Nat.reduceLeDiff,Ap,V.int.injEq,V.bl.injEq,V.str.injEq,V.ref.injEq,HO.lst.injEq,HO.tup.injEq,Aw,A3,Ax,Is,Ii,jb,jct,jdm,jdp,jdq,A4,Az,Ao,Af,Ih,Ik,reduceIte,reduceCtorEq,jc6,tLam,jbz,jdx,jbz,jdr,$ls,*])
def jho(K:PySem.W.Frag)(Pt:Addr):Sp:=λvs H Q _=>∃(a:Addr)(ns:List Int),vs=[.ref a]/\SqL K H a (ns.map V.int)/\ns.length<=63/\a≠Pt/\TabOk H Pt WQ/\∀H',Q (.bl true) H'
theorem jn1{H H':Hp}{b Pt:Addr}{qual:Str}(hb:∃o,H b=some o/\BoxO o)(t:TabOk H Pt qual)(k:Kp [b] H H'):TabOk H' Pt qual:=by
 obtain⟨o,hb,ho⟩:=hb
 obtain⟨xs,rfl⟩:=ho.lst
 refine t.kp k (λm=>?_) λc o e m=>?_
 ·obtain⟨ps,hp,_⟩:=t
  rw[Ai.mp m,hb]at hp
  cases hp
 ·rw[Ai.mp m,hb]at e
  cases e
structure TLw(mg:Str->Option Value)(fb ft fl fm fo fr:Addr):Prop where
 n_len:mg "len"=none
 n_range:mg "range"=none
 n_int:mg "int"=none
 m7z:mg "_law_box"=some (.ref fb)
 m0z:mg "_law_take"=some (.ref ft)
 m3z:mg "_law_letters"=some (.ref fl)
 m1z:mg "_law_machine"=some (.ref fm)
 m10z:mg "_law_other"=some (.ref fo)
 m5z:mg "_law_right"=some (.ref fr)
section
variable{P:Program}{w:World}{K:PySem.W.Frag}{mg:Str->Option Value}{base:Heap}
abbrev jad:Stmt:=top 33
theorem ja0:FnScope ["_law_script","_law_k","_law_box_here","_law_most","_law_machine_here"] ["_law_script"] (jh jad):=⟨rfl,rfl,rfl,by decide +kernel,rfl,by decide +kernel,by decide +kernel⟩
theorem ok_law{f fb ft fl fm fo frt Pt:Addr}{fd fdb fdk fdl fdm fdo fdt:FuncData}(F:Fun K "law" "law" jad f fd)(T:TLw mg fb ft fl fm fo frt)
  (F7z:Fun K "_law_box" "_law_box" zd fb fdb) (b7z:Binds K fdb ["_law_script","_law_k"] []) (G7z:FnOk P w K mg base CX0 1 fb fdb ["_law_script","_law_k"] (jnc K))
  (F0z:Fun K "_law_take" "_law_take" kn ft fdk) (b0z:Binds K fdk ["_law_box_here","_law_wide"] []) (G0z:FnOk P w K mg base CX0 1 ft fdk ["_law_box_here","_law_wide"] je7)
  (F3z:Fun K "_law_letters" "_law_letters" yc fl fdl) (b3z:Binds K fdl ["_law_box_here","_law_most"] []) (G3z:FnOk P w K mg base CX0 2 fl fdl ["_law_box_here","_law_most"] jf4)
  (F1z:Fun K "_law_machine" "_law_machine" kj fm fdm) (b1z:Binds K fdm ["_law_box_here","_law_letters_here","_law_most"] []) (G1z:FnOk P w K mg base CX0 2 fm fdm ["_law_box_here","_law_letters_here","_law_most"] jf5)
  (F10z:Fun K "_law_other" "_law_other" yx fo fdo) (b10z:Binds K fdo ["_law_box_here","_law_machine_here","_law_most"] []) (G10z:FnOk P w K mg base CX0 3 fo fdo ["_law_box_here","_law_machine_here","_law_most"] jne)
  (F5z:Fun K "_law_right" "_law_right" yu frt fdt) (b5z:Binds K fdt ["_law_one","_law_other_here"] []) (G5z:FnOk P w K mg base CX0 8 frt fdt ["_law_one","_law_other_here"] (spRi Pt)):FnOk P w K mg base CX0 9 f fd ["_law_script"] (jho K Pt):=by
 refine F.ok ja0 (λvs H Q E h=>?_) (λcdv A outer s H vs Q E hr h=>?_)
 ·obtain⟨a,ns,rfl,_⟩:=h
  rfl
 ·obtain⟨a,ns,rfl,hS,hn,na,tb,kQ⟩:=h
  have hu:=hr.units
  have hsz:sizeLine=16777216:=Iw
  refine exQ (jg (zb Od rfl (yq rfl T.n_range (ja (jo kh je (jn j4 (by rfl) T.n_len ke (ja (zo (sl_UK (K:=K) rfl) (qpv 0) z6 (z7 je)) jc))) jc)) (jv (i:=1) ja0.nd rfl (by ac_rfl)) (jg (jk (i:=2) ja0.nd rfl (by ac_rfl) (jm G7z (hr.mono (by decide)) rfl T.m7z F7z.kp b7z .nil jy (ja (qpv 0) (ja (qpv 1) jc))))
  (jg (jk (i:=3) ja0.nd rfl (by ac_rfl) (ji ix_U (ya (ja je (ja je jc))) (ju jaw (by rfl) T.n_int jbj (ja (zz (yh hu) (jm G0z (hr.mono (by decide)) rfl T.m0z F0z.kp b0z .nil jy (ja (qpv 2) (ja je jc))) je (jz _)) jc)) (λ_ _=>rfl)))
  (jg (jk (i:=4) ja0.nd rfl (by ac_rfl) (jm G1z (hr.mono (by decide)) rfl T.m1z F1z.kp b1z .nil jy (ja (qpv 2) (ja (jm G3z (hr.mono (by decide)) rfl T.m3z F3z.kp b3z .nil jy (ja (qpv 2) (ja je jc))) (ja (qpv 3) jc)))))
  (jj (ki (QW.pt (jbo (jbb (jbc (jm G5z (hr.mono (by decide)) rfl T.m5z F5z.kp b5z .nil jy (ja (qpv 4) (ja (jm G10z (hr.mono (by decide)) rfl T.m10z F10z.kp b10z .nil jy (ja (qpv 2) (ja (qpv 4) (ja (qpv 3) jc)))) jc))))) (jbd (jbb (jbc (jm G5z (hr.mono (by decide)) rfl T.m5z F5z.kp b5z .nil jy (ja (qpv 4) (ja (qpv 4) jc)))))))) (jj (jx jbl)) j8))))))
  (jj (jx jbl))) ?_
  simp!
  refine rSlU.sq hS λp0 hp0=>?_
  have cl:(cutV (ns.map V.int) none (some 6)).length<=ns.length:=by
   unfold cutV
   rw[Oi,Ua,Aa]
   omega
  simp!
  generalize hc:(cutV (ns.map V.int) none (some 6)).length=c at cl
  refine⟨by omega,by omega,?_⟩
  have kp0:Kp [] H (upd H p0 (.lst (cutV (ns.map V.int) none (some 6)))):=(Kp.refl [] H).new hp0
  generalize upd H p0 (.lst (cutV (ns.map V.int) none (some 6)))=H1 at kp0⊢
  obtain⟨J0,hJ0⟩:∃J0:Nat->L2.St->Hp->Prop,∀i s H',J0 i s H'↔(∃(v1 v2 v3 v4:Option V),s=[some (.ref a),v1,v2,v3,v4]/\Kp [Pt] H H'/\TabOk H' Pt WQ):=⟨_,λ_ _ _=>O7⟩
  refine jd7 J0 ((hJ0 _ _ _).mpr ⟨none,none,none,none,rfl,kp0.mono (by simp),tb.kp kp0 (by simp) (by simp)⟩) ?_ ?_
  ·intro i σ H2 hi hJ
   obtain⟨v1,v2,v3,v4,rfl,k2,t2⟩:=(hJ0 _ _ _).mp hJ
   simp!
   refine⟨a,0+(i:Int),ns,rfl,k2.seq (by simpa using na) hS,by omega,by omega,λb o hb ho=>?_⟩
   have kb:Kp [] H2 (upd H2 b o):=(Kp.refl [] H2).new hb
   have t3:=t2.kp kb (by simp) (by simp)
   have eb:upd H2 b o b=some o:=jb
   have hb0:H b=none:=k2.free hb
   generalize upd H2 b o=H3 at kb t3 eb⊢
   have S0:SB H3 b H3:=⟨Kp.refl _ _,o,eb,ho⟩
   dsimp only
   refine⟨by omega,λp hp=>?_⟩
   have S1:SB H3 b (upd H3 p (.lst [.int 8,.int 30])):=S0.new hp
   have ep:upd H3 p (.lst [.int 8,.int 30]) p=some (.lst [.int 8,.int 30]):=jb
   have npb:p≠b:=S0.ne hp
   generalize upd H3 p (.lst [.int 8,.int 30])=H4 at S1 ep⊢
   refine S1.tq (by omega) (by omega) λd H5 d0 d1 S2 k5=>?_
   have ep:=k5.old _ _ ep (by simpa using npb)
   simp!
   obtain⟨x,n,hx,ex,hn30,hn1⟩:∃(x:V)(n:Nat),atI [V.int 8,V.int 30] (if d=1 then 1 else 0)=some x/\x=.int (n:Int)/\n<=30/\1<=n:=by
    by_cases c:d=1
    ·exact⟨_,30,by rw[Am c];rfl,rfl,by omega,by omega⟩
    ·exact⟨_,8,by rw[Ah c];rfl,rfl,by omega,by omega⟩
   subst ex
   refine⟨_,by rw[ep];rfl,_,hx,?_⟩
   obtain⟨o5,hb5,ho5⟩:=S2.bx
   refine⟨b,4,o5,rfl,hb5,ho5,by omega,by omega,λz o6 H6 hz ho6 hb6 k6=>?_⟩
   refine⟨b,z,n,o6,rfl,hb6,ho6,hz,hn1,by omega,λq m o7 H7 ez ok ho7 hb7 k7 rp=>?_⟩
   obtain⟨a1,a2,us,M⟩:=Mach.opened rp
   have S7:SB H3 b H7:=S2.trans ⟨k6.trans k7,o7,hb7,ho7⟩
   refine⟨b,q,a1,a2,us,m,o7,n,rfl,hb7,ho7,M,rp,ok,hn30,λq' c1 c2 ws m' H8 ok' S8 M'=>?_⟩
   have M8:=M.kp S8.kp
   have S9:=S7.trans S8
   have t8:=jn1 ⟨o,eb,ho⟩ t3 S9.kp
   have l1:=ok.nh
   have l2:=ok'.nh
   have pr:m.mv.length*m'.mv.length<=1000:=Io (Nat.mul_le_mul (Io l1 hn30) l2) (by decide)
   have pr2:m.mv.length*m.mv.length<=1000:=Io (Nat.mul_le_mul (Io l1 hn30) (Io l1 hn30)) (by decide)
   refine⟨q,q',a1,a2,c1,c2,us,ws,m,m',n,33,rfl,M8,M',ok,ok',by omega,by omega,pr,t8,λH9 k9 t9=>⟨true,rfl,?_⟩⟩
   rw[Ah (by simp)]
   have M9:=M8.kp k9
   refine⟨q,q,a1,a2,a1,a2,us,us,m,m,n,n,rfl,M9,M9,ok,ok,by omega,by omega,pr2,t9,λH10 k10 t10=>⟨true,rfl,?_⟩⟩
   rw[Ah (by simp)]
   have kx:Kp [Pt] H H3:=k2.trans (kb.mono (by simp))
   have ky:Kp [Pt] H H8:=kx.trans' S9.kp (λx hx=>.inr (by cases Ai.mp hx;exact hb0))
   exact(hJ0 _ _ _).mpr ⟨_,_,_,_,rfl,(ky.trans k9).trans k10,t10⟩
  ·intro σ H2 hJ
   obtain⟨v1,v2,v3,v4,rfl,_⟩:=(hJ0 _ _ _).mp hJ
   simp!
   exact kQ H2
end
local macro_rules
 | `(tactic| simp!)=>`(tactic| simp only [tSeq,tIfS,jdl,tOp,tVar,tC,tAsg,jc4,gSub,tRet,jdi,jdf,jdg,tAnd,tOr,tNot,jda,jdj,tB,jdd,rI0,rI,jb2,jb4,jb9,jca,jcn,jco,jcm,jcg,jb7,jb6,jb8,jb5,jck,jb1,jb0,jcb,jby,jci,jcz,jcj,jch,jcp,jc1,jcr,jcq,jcc,jcy,jb3,jcf,jcd,jce,Option.isSome_some,tBML,tCB,jde,tNil,tLst,tTup,jdn,tSl,jdk,jcw,jcs,iAny,jdb,jc5,jc7,jcv,jdc,tAug,ipI,jc2,jc9,jcu,jcx,jdh,jc8,hdl,jc0,jcl,tBM,jc3,Option.bind_some,Option.bind_none,Option.getD_some,L2.start,Ak,Au,List.length_cons,List.length_nil,List.cons_append,List.nil_append,Aq,At,List.replicate,List.getElem?_cons_zero,List.getElem?_cons_succ,List.set_cons_zero,List.set_cons_succ,Nat.reduceSub,Nat.reduceAdd,Nat.reduceLeDiff,Ap,V.int.injEq,V.bl.injEq,V.str.injEq,V.ref.injEq,HO.lst.injEq,HO.tup.injEq,Aw,A3,Ax,Is,Ii,jb,jct,jdm,jdp,jdq,A4,Az,Ao,Af,Ih,Ik,reduceIte,reduceCtorEq,jc6,tLam,jbz,jdx,jbz,jdr])
 | `(tactic| simp! [$ls,*])=>`(tactic| simp only [tSeq,tIfS,jdl,tOp,tVar,tC,tAsg,jc4,gSub,tRet,jdi,jdf,jdg,tAnd,tOr,tNot,jda,jdj,tB,jdd,rI0,rI,jb2,jb4,jb9,jca,jcn,jco,jcm,jcg,jb7,jb6,jb8,jb5,jck,jb1,jb0,jcb,jby,jci,jcz,jcj,jch,jcp,jc1,jcr,jcq,jcc,jcy,jb3,jcf,jcd,jce,Option.isSome_some,tBML,tCB,jde,tNil,tLst,tTup,jdn,tSl,jdk,jcw,jcs,iAny,jdb,jc5,jc7,jcv,jdc,tAug,ipI,jc2,jc9,jcu,jcx,jdh,jc8,hdl,jc0,jcl,tBM,jc3,Option.bind_some,Option.bind_none,Option.getD_some,L2.start,Ak,Au,List.length_cons,List.length_nil,List.cons_append,List.nil_append,Aq,At,List.replicate,List.getElem?_cons_zero,List.getElem?_cons_succ,List.set_cons_zero,List.set_cons_succ,Nat.reduceSub,Nat.reduceAdd,Nat.reduceLeDiff,Ap,V.int.injEq,V.bl.injEq,V.str.injEq,V.ref.injEq,HO.lst.injEq,HO.tup.injEq,Aw,A3,Ax,Is,Ii,jb,jct,jdm,jdp,jdq,A4,Az,Ao,Af,Ih,Ik,reduceIte,reduceCtorEq,jc6,tLam,jbz,jdx,jbz,jdr,$ls,*])
theorem c_of{K:PySem.W.Frag}{hh:Heap}(X:K.In hh){b c:Addr}{fd:FuncData}{oc:Value}{od:Option Addr}{osl:Array (Option Value)}(h3:PySem.W.nsIn K mainGlobals "walked_pairs"=some (some (.ref b)))(h4:K.lookup b=some ⟨oc,od,.func fd,osl⟩)(h5:fd.code=.ref c)(h6:PySem.W.codeHdIn K c 178=true):∃c,PySem.W.CodeHd hh c 178:=⟨c,PySem.W.codeHd_of_K X h6⟩
theorem us1{C:List Value->Prop}(h:∀v0:Value,C [v0])(us:List Value)(e:us.length=1):C us:=by
 cases us with
 |nil=>exact absurd e.symm (Oh _)
 |cons v0 us =>
  cases us with
  |nil=>exact h v0
  |cons _ _=>exact absurd (Oj (e)) (Oh _)
theorem us3{C:List Value->Prop}(h:∀v0 v1 v2:Value,C [v0,v1,v2])(us:List Value)(e:us.length=3):C us:=by
 cases us with
 |nil=>exact absurd e.symm (Oh _)
 |cons v0 us =>
  cases us with
  |nil=>exact absurd (Oj (e.symm)) (Oh _)
  |cons v1 us =>
   cases us with
   |nil=>exact absurd (Oj (Oj (e.symm))) (Oh _)
   |cons v2 us =>
    cases us with
    |nil=>exact h v0 v1 v2
    |cons _ _=>exact absurd (Oj (Oj (Oj (e)))) (Oh _)
theorem us4{C:List Value->Prop}(h:∀v0 v1 v2 v3:Value,C [v0,v1,v2,v3])(us:List Value)(e:us.length=4):C us :=
 match us,e with|[v0,v1,v2,v3],_=>h v0 v1 v2 v3
theorem all_mk{l:PySem.W.OpenLaw}{w:World}{K:PySem.W.Frag}{h:Heap}{mg:Str->Option Value}{fa f1 f2 f3 f4 f5 f6 f7 f8 f9 f10 f11 f12 f13 f14 f15 f16 f17 f18 f19:Addr}(X:K.In h)(G:h.Ns mainGlobals mg)(hfa:mg "law"=some (.ref fa))
  {od1 od2 od3 od4 od5 od6 od7 od8 od9 od10 od11 od12 od13 od14 od15 od16 od17 od18 od19 an1 an2 an3 an4 an5 an6 an7 an8 an9 an10 an11 an12 an13 an14 an15 an16 an17 an18 an19:Option Addr}{sl1 sl2 sl3 sl4 sl5 sl6 sl7 sl8 sl9 sl10 sl11 sl12 sl13 sl14 sl15 sl16 sl17 sl18 sl19:Array (Option Value)}{oc1 kV1 dc1 pm1 cd1 ct1 oc2 kV2 dc2 pm2 cd2 ct2 oc3 kV3 dc3 pm3 cd3 ct3 oc4 kV4 dc4 pm4 cd4 ct4 oc5 kV5 dc5 pm5 cd5 ct5 oc6 kV6 dc6 pm6 cd6 ct6 oc7 kV7 dc7 pm7 cd7 ct7 oc8 kV8 dc8 pm8 cd8 ct8 oc9 kV9 dc9 pm9 cd9 ct9 oc10 kV10 dc10 pm10 cd10 ct10 oc11 kV11 dc11 pm11 cd11 ct11 oc12 kV12 dc12 pm12 cd12 ct12 oc13 kV13 dc13 pm13 cd13 ct13 oc14 kV14 dc14 pm14 cd14 ct14 oc15 kV15 dc15 pm15 cd15 ct15 oc16 kV16 dc16 pm16 cd16 ct16 oc17 kV17 dc17 pm17 cd17 ct17 oc18 kV18 dc18 pm18 cd18 ct18 oc19 kV19 dc19 pm19 cd19 ct19:Value}
  {cy fcu fwp td tdw:Addr}{occu kVcu dccu pmcu cdcu ctcu octd ocwp kVwp dcwp pmwp cdwp ctwp octw:Value}{odcu ancu odtd odwp anwp odtw:Option Addr}{slcu sltd slwp sltw:Array (Option Value)}{tkd:Tok}{ntd ntw:Nat}{D:Addr}{ND:Addr}{nmD qD:Str}{bsD subD:List Value}{snD:List Str}{abD:Bool}{colD:Option Bool}{ddD:Option Addr}{noD:Value}{kgD khD kiD kjD kkD:Option Value}{ndD:Option Addr}{esD:Array DictEntry}{enD:Nat}{nlD:Array (Option Value)}{C0 N0:Addr}{nm0 q0:Str}{bs0 sub0:List Value}{sn0:List Str}{ab0:Bool}{col0:Option Bool}{dd0:Option Addr}{ka0 kb0 kc0 kd0 kf0:Option Value}{C1 N1:Addr}{nm1 q1:Str}{bs1 sub1:List Value}{sn1:List Str}{ab1:Bool}{col1:Option Bool}{dd1:Option Addr}{ka1 kb1 kc1 kd1 kf1:Option Value}{C2 N2:Addr}{nm2 q2:Str}{bs2 sub2:List Value}{sn2:List Str}{ab2:Bool}{col2:Option Bool}{dd2:Option Addr}{ka2 kb2 kc2 kd2 kf2:Option Value}{C3 N3:Addr}{nm3 q3:Str}{bs3 sub3:List Value}{sn3:List Str}{ab3:Bool}{col3:Option Bool}{dd3:Option Addr}{ka3 kb3 kc3 kd3 kf3:Option Value}{C4 N4:Addr}{nm4 q4:Str}{bs4 sub4:List Value}{sn4:List Str}{ab4:Bool}{col4:Option Bool}{dd4:Option Addr}{ka4 kb4 kc4 kd4 kf4:Option Value}{no4:Value}{nd4:Option Addr}{es4:Array DictEntry}{en4:Nat}{nl4:Array (Option Value)}
  (a1:PySem.W.nsIn K mainGlobals "apart"=some (some (.ref f1))) (l1:K.lookup f1=some ⟨oc1,od1,.func (PySem.W.fnOf "apart" "apart" (j6 z8) (jt z8) (jh z8) .none kV1 dc1 pm1 an1 cd1 ct1),sl1⟩) (c1:PySem.W.codeIn K cd1 "apart"=true) (k1:PySem.W.keepIn K (.ref f1)=true)
  (a2:PySem.W.nsIn K mainGlobals "join_rooms"=some (some (.ref f2))) (l2:K.lookup f2=some ⟨oc2,od2,.func (PySem.W.fnOf "join_rooms" "join_rooms" (j6 yz) (jt yz) (jh yz) .none kV2 dc2 pm2 an2 cd2 ct2),sl2⟩) (c2:PySem.W.codeIn K cd2 "join_rooms"=true) (k2:PySem.W.keepIn K (.ref f2)=true)
  (a3:PySem.W.nsIn K mainGlobals "head_of"=some (some (.ref f3))) (l3:K.lookup f3=some ⟨oc3,od3,.func (PySem.W.fnOf "head_of" "head_of" (j6 zi) (jt zi) (jh zi) .none kV3 dc3 pm3 an3 cd3 ct3),sl3⟩) (c3:PySem.W.codeIn K cd3 "head_of"=true) (k3:PySem.W.keepIn K (.ref f3)=true)
  (a4:PySem.W.nsIn K mainGlobals "compared"=some (some (.ref f4))) (l4:K.lookup f4=some ⟨oc4,od4,.func (PySem.W.fnOf "compared" "compared" (j6 ze) (jt ze) (jh ze) .none kV4 dc4 pm4 an4 cd4 ct4),sl4⟩) (c4:PySem.W.codeIn K cd4 "compared"=true) (k4:PySem.W.keepIn K (.ref f4)=true)
  (a5:PySem.W.nsIn K mainGlobals "look_same_letters"=some (some (.ref f5))) (l5:K.lookup f5=some ⟨oc5,od5,.func (PySem.W.fnOf "look_same_letters" "look_same_letters" (j6 kc) (jt kc) (jh kc) .none kV5 dc5 pm5 an5 cd5 ct5),sl5⟩) (c5:PySem.W.codeIn K cd5 "look_same_letters"=true) (k5:PySem.W.keepIn K (.ref f5)=true)
  (a6:PySem.W.nsIn K mainGlobals "side_by_side"=some (some (.ref f6))) (l6:K.lookup f6=some ⟨oc6,od6,.func (PySem.W.fnOf "side_by_side" "side_by_side" (j6 yd) (jt yd) (jh yd) .none kV6 dc6 pm6 an6 cd6 ct6),sl6⟩) (c6:PySem.W.codeIn K cd6 "side_by_side"=true) (k6:PySem.W.keepIn K (.ref f6)=true)
  (a7:PySem.W.nsIn K mainGlobals "pairs_hold"=some (some (.ref f7))) (l7:K.lookup f7=some ⟨oc7,od7,.func (PySem.W.fnOf "pairs_hold" "pairs_hold" (j6 y3) (jt y3) (jh y3) .none kV7 dc7 pm7 an7 cd7 ct7),sl7⟩) (c7:PySem.W.codeIn K cd7 "pairs_hold"=true) (k7:PySem.W.keepIn K (.ref f7)=true)
  (a8:PySem.W.nsIn K mainGlobals "_law_box"=some (some (.ref f8))) (l8:K.lookup f8=some ⟨oc8,od8,.func (PySem.W.fnOf "_law_box" "_law_box" (j6 zd) (jt zd) (jh zd) .none kV8 dc8 pm8 an8 cd8 ct8),sl8⟩) (c8:PySem.W.codeIn K cd8 "_law_box"=true) (k8:PySem.W.keepIn K (.ref f8)=true)
  (a9:PySem.W.nsIn K mainGlobals "_law_take"=some (some (.ref f9))) (l9:K.lookup f9=some ⟨oc9,od9,.func (PySem.W.fnOf "_law_take" "_law_take" (j6 kn) (jt kn) (jh kn) .none kV9 dc9 pm9 an9 cd9 ct9),sl9⟩) (c9:PySem.W.codeIn K cd9 "_law_take"=true) (k9:PySem.W.keepIn K (.ref f9)=true)
  (a10:PySem.W.nsIn K mainGlobals "_law_letters"=some (some (.ref f10))) (l10:K.lookup f10=some ⟨oc10,od10,.func (PySem.W.fnOf "_law_letters" "_law_letters" (j6 yc) (jt yc) (jh yc) .none kV10 dc10 pm10 an10 cd10 ct10),sl10⟩) (c10:PySem.W.codeIn K cd10 "_law_letters"=true) (k10:PySem.W.keepIn K (.ref f10)=true)
  (a11:PySem.W.nsIn K mainGlobals "_law_machine"=some (some (.ref f11))) (l11:K.lookup f11=some ⟨oc11,od11,.func (PySem.W.fnOf "_law_machine" "_law_machine" (j6 kj) (jt kj) (jh kj) .none kV11 dc11 pm11 an11 cd11 ct11),sl11⟩) (c11:PySem.W.codeIn K cd11 "_law_machine"=true) (k11:PySem.W.keepIn K (.ref f11)=true)
  (a12:PySem.W.nsIn K mainGlobals "_law_pairs"=some (some (.ref f12))) (l12:K.lookup f12=some ⟨oc12,od12,.func (PySem.W.fnOf "_law_pairs" "_law_pairs" (j6 yt) (jt yt) (jh yt) .none kV12 dc12 pm12 an12 cd12 ct12),sl12⟩) (c12:PySem.W.codeIn K cd12 "_law_pairs"=true) (k12:PySem.W.keepIn K (.ref f12)=true)
  (a13:PySem.W.nsIn K mainGlobals "_law_copied"=some (some (.ref f13))) (l13:K.lookup f13=some ⟨oc13,od13,.func (PySem.W.fnOf "_law_copied" "_law_copied" (j6 km) (jt km) (jh km) .none kV13 dc13 pm13 an13 cd13 ct13),sl13⟩) (c13:PySem.W.codeIn K cd13 "_law_copied"=true) (k13:PySem.W.keepIn K (.ref f13)=true)
  (a14:PySem.W.nsIn K mainGlobals "_law_changed"=some (some (.ref f14))) (l14:K.lookup f14=some ⟨oc14,od14,.func (PySem.W.fnOf "_law_changed" "_law_changed" (j6 yo) (jt yo) (jh yo) .none kV14 dc14 pm14 an14 cd14 ct14),sl14⟩) (c14:PySem.W.codeIn K cd14 "_law_changed"=true) (k14:PySem.W.keepIn K (.ref f14)=true)
  (a15:PySem.W.nsIn K mainGlobals "_law_other"=some (some (.ref f15))) (l15:K.lookup f15=some ⟨oc15,od15,.func (PySem.W.fnOf "_law_other" "_law_other" (j6 yx) (jt yx) (jh yx) .none kV15 dc15 pm15 an15 cd15 ct15),sl15⟩) (c15:PySem.W.codeIn K cd15 "_law_other"=true) (k15:PySem.W.keepIn K (.ref f15)=true)
  (a16:PySem.W.nsIn K mainGlobals "_law_told"=some (some (.ref f16))) (l16:K.lookup f16=some ⟨oc16,od16,.func (PySem.W.fnOf "_law_told" "_law_told" (j6 y9) (jt y9) (jh y9) .none kV16 dc16 pm16 an16 cd16 ct16),sl16⟩) (c16:PySem.W.codeIn K cd16 "_law_told"=true) (k16:PySem.W.keepIn K (.ref f16)=true)
  (a17:PySem.W.nsIn K mainGlobals "_law_turned"=some (some (.ref f17))) (l17:K.lookup f17=some ⟨oc17,od17,.func (PySem.W.fnOf "_law_turned" "_law_turned" (j6 yj) (jt yj) (jh yj) .none kV17 dc17 pm17 an17 cd17 ct17),sl17⟩) (c17:PySem.W.codeIn K cd17 "_law_turned"=true) (k17:PySem.W.keepIn K (.ref f17)=true)
  (a18:PySem.W.nsIn K mainGlobals "_law_right"=some (some (.ref f18))) (l18:K.lookup f18=some ⟨oc18,od18,.func (PySem.W.fnOf "_law_right" "_law_right" (j6 yu) (jt yu) (jh yu) .none kV18 dc18 pm18 an18 cd18 ct18),sl18⟩) (c18:PySem.W.codeIn K cd18 "_law_right"=true) (k18:PySem.W.keepIn K (.ref f18)=true)
  (a19:PySem.W.nsIn K mainGlobals "law"=some (some (.ref f19))) (l19:K.lookup f19=some ⟨oc19,od19,.func (PySem.W.fnOf "law" "law" (j6 jad) (jt jad) (jh jad) .none kV19 dc19 pm19 an19 cd19 ct19),sl19⟩) (c19:PySem.W.codeIn K cd19 "law"=true) (k19:PySem.W.keepIn K (.ref f19)=true)
  (z_len:PySem.W.nsIn K mainGlobals "len"=some none)
  (z_int:PySem.W.nsIn K mainGlobals "int"=some none)
  (z_range:PySem.W.nsIn K mainGlobals "range"=some none)
  (z_list:PySem.W.nsIn K mainGlobals "list"=some none)
  (z_tuple:PySem.W.nsIn K mainGlobals "tuple"=some none)
  (z_enumerate:PySem.W.nsIn K mainGlobals "enumerate"=some none)
  (z_max:PySem.W.nsIn K mainGlobals "max"=some none)
  (z_sorted:PySem.W.nsIn K mainGlobals "sorted"=some none)
  (z_repr:PySem.W.nsIn K mainGlobals "repr"=some none)
  (z_isinstance:PySem.W.nsIn K mainGlobals "isinstance"=some none)
  (acu:PySem.W.nsIn K mainGlobals "come_up"=some (some (.ref fcu)))
  (lcu:K.lookup fcu=some ⟨occu,odcu,.func (PySem.W.fnOf "come_up" "come_up" (j6 zc) (jt zc) (jh zc) (.ref td) kVcu dccu pmcu ancu cdcu ctcu),slcu⟩)
  (ccu:PySem.W.codeIn K cdcu "come_up"=true)
  (kcu:PySem.W.keepIn K (.ref fcu)=true)
  (ltd:K.lookup td=some ⟨octd,odtd,.seq #[.none,.int 0 tkd] ntd,sltd⟩)
  (awp:PySem.W.nsIn K mainGlobals "walked_pairs"=some (some (.ref fwp)))
  (lwp:K.lookup fwp=some ⟨ocwp,odwp,.func (PySem.W.fnOf "walked_pairs" "walked_pairs" (j6 yf) (jt yf) (jh yf) (.ref tdw) kVwp dcwp pmwp anwp cdwp ctwp),slwp⟩)
  (cwp:PySem.W.codeIn K cdwp "walked_pairs"=true)
  (kwp:PySem.W.keepIn K (.ref fwp)=true)
  (ltw:K.lookup tdw=some ⟨octw,odtw,.seq #[.none] ntw,sltw⟩)
  (ecy:cdwp=.ref cy)
  (hcy:PySem.W.codeHdIn K cy 178=true)
  (aD:PySem.W.nsIn K mainGlobals "CalmError"=some (some (.ref D)))
  (lD:K.lookup D=some (excClassObj nmD qD D ND bsD bmVE true snD subD abD colD ddD kgD khD kiD kjD kkD "ValueError.__new__"))
  (lnD:K.lookup ND=some ⟨noD,ndD,.dict esD enD,nlD⟩)
  (eoD:(esD.all λe=>match e.key with|.str _ _=>true|_=>false)=true)
  (inD:PySem.W.nsIn K ND "__init__"=some none)
  (ac0:PySem.W.nsIn K mainGlobals "BadLetters"=some (some (.ref C0)))
  (lc0:K.lookup C0=some (excClassObj nm0 q0 C0 N0 bs0 (.ref D::bmVE) true sn0 sub0 ab0 col0 dd0 ka0 kb0 kc0 kd0 kf0 "ValueError.__new__"))
  (ty0:PySem.W.typeIn K (.ref C0)=some (.type "type"))
  (ac1:PySem.W.nsIn K mainGlobals "BadRoom"=some (some (.ref C1)))
  (lc1:K.lookup C1=some (excClassObj nm1 q1 C1 N1 bs1 (.ref D::bmVE) true sn1 sub1 ab1 col1 dd1 ka1 kb1 kc1 kd1 kf1 "ValueError.__new__"))
  (ty1:PySem.W.typeIn K (.ref C1)=some (.type "type"))
  (ac2:PySem.W.nsIn K mainGlobals "BadText"=some (some (.ref C2)))
  (lc2:K.lookup C2=some (excClassObj nm2 q2 C2 N2 bs2 (.ref D::bmVE) true sn2 sub2 ab2 col2 dd2 ka2 kb2 kc2 kd2 kf2 "ValueError.__new__"))
  (ty2:PySem.W.typeIn K (.ref C2)=some (.type "type"))
  (ac3:PySem.W.nsIn K mainGlobals "NoLetter"=some (some (.ref C3)))
  (lc3:K.lookup C3=some (excClassObj nm3 q3 C3 N3 bs3 (.ref D::bmVE) true sn3 sub3 ab3 col3 dd3 ka3 kb3 kc3 kd3 kf3 "ValueError.__new__"))
  (ty3:PySem.W.typeIn K (.ref C3)=some (.type "type"))
  (ac4:PySem.W.nsIn K mainGlobals "OtherLetters"=some (some (.ref C4)))
  (lc4:K.lookup C4=some (excClassObj nm4 q4 C4 N4 bs4 (.ref D::bmVE) true sn4 sub4 ab4 col4 dd4 ka4 kb4 kc4 kd4 kf4 "ValueError.__new__"))
  (ln4:K.lookup N4=some ⟨no4,nd4,.dict es4 en4,nl4⟩)
  (eo4:(es4.all λe=>match e.key with|.str _ _=>true|_=>false)=true)
  (sa4:PySem.W.findIn K (.ref C4) "__setattr__"=some (some (.builtin "object.__setattr__")))
  (ga4:PySem.W.findIn K (.ref C4) "__getattribute__"=some (some (.builtin "BaseException.__getattribute__")))
  (gx4:PySem.W.findIn K (.ref C4) "__getattr__"=some none)
  (kp4:PySem.W.keepIn K (.ref C4)=true)
  (cc4:PySem.W.findIn K (.ref C4) "__class__"=some (some (.builtin "object.__class__")))
  (ob4:PySem.W.mroIn K C4 (.type "object")=some true)
  (in4:PySem.W.nsIn K N4 "__init__"=some none)
  (apr:List.Nodup [C4,C0,C1,C2,C3,D])
  : ∃fd:FuncData,(∀(s:Shared)(v:Value),BindsTo s fd ⟨[v],[]⟩ [("_law_script",v)])/\∀base:Heap,K.In base->base.Ns mainGlobals mg->(∀t∈[178],base.BuiltinsAt mg t)->FnOk l.prog w K mg base CX0 9 fa fd ["_law_script"] (jho K 178):=by
 have e:=hfa.symm.trans (Iq X G a19)
 cases e
 have F13z:=jd2 (st:=z8) l1 c1 k1
 have m13z:=Iq X G a1
 have b13z:=F13z.binds (ps:=["machine","one","other"]) λ_ _ _ _ _ _=>us3 λ_ _ _=>rfl
 have F15z:=jd2 (st:=yz) l2 c2 k2
 have m15z:=Iq X G a2
 have b15z:=F15z.binds (ps:=["heads","one","other"]) λ_ _ _ _ _ _=>us3 λ_ _ _=>rfl
 have F6z:=jd2 (st:=zi) l3 c3 k3
 have m6z:=Iq X G a3
 have b6z:=F6z.binds (ps:=["heads","room"]) λ_ _ _ _ _ _=>us2 λ_ _=>rfl
 have F14z:=jd2 (st:=ze) l4 c4 k4
 have m14z:=Iq X G a4
 have b14z:=F14z.binds (ps:=["one","other"]) λ_ _ _ _ _ _=>us2 λ_ _=>rfl
 have F4z:=jd2 (st:=kc) l5 c5 k5
 have m4z:=Iq X G a5
 have b4z:=F4z.binds (ps:=["one","other"]) λ_ _ _ _ _ _=>us2 λ_ _=>rfl
 have F17z:=jd2 (st:=yd) l6 c6 k6
 have m17z:=Iq X G a6
 have b17z:=F17z.binds (ps:=["one","other"]) λ_ _ _ _ _ _=>us2 λ_ _=>rfl
 have F16z:=jd2 (st:=y3) l7 c7 k7
 have m16z:=Iq X G a7
 have b16z:=F16z.binds (ps:=["one","other","pairs"]) λ_ _ _ _ _ _=>us3 λ_ _ _=>rfl
 have F7z:=jd2 (st:=zd) l8 c8 k8
 have m7z:=Iq X G a8
 have b7z:=F7z.binds (ps:=["_law_script","_law_k"]) λ_ _ _ _ _ _=>us2 λ_ _=>rfl
 have F0z:=jd2 (st:=kn) l9 c9 k9
 have m0z:=Iq X G a9
 have b0z:=F0z.binds (ps:=["_law_box_here","_law_wide"]) λ_ _ _ _ _ _=>us2 λ_ _=>rfl
 have F3z:=jd2 (st:=yc) l10 c10 k10
 have m3z:=Iq X G a10
 have b3z:=F3z.binds (ps:=["_law_box_here","_law_most"]) λ_ _ _ _ _ _=>us2 λ_ _=>rfl
 have F1z:=jd2 (st:=kj) l11 c11 k11
 have m1z:=Iq X G a11
 have b1z:=F1z.binds (ps:=["_law_box_here","_law_letters_here","_law_most"]) λ_ _ _ _ _ _=>us3 λ_ _ _=>rfl
 have F11z:=jd2 (st:=yt) l12 c12 k12
 have m11z:=Iq X G a12
 have b11z:=F11z.binds (ps:=["_law_one","_law_other_here"]) λ_ _ _ _ _ _=>us2 λ_ _=>rfl
 have F9z:=jd2 (st:=km) l13 c13 k13
 have m9z:=Iq X G a13
 have b9z:=F9z.binds (ps:=["_law_box_here","_law_machine_here","_law_most"]) λ_ _ _ _ _ _=>us3 λ_ _ _=>rfl
 have F8z:=jd2 (st:=yo) l14 c14 k14
 have m8z:=Iq X G a14
 have b8z:=F8z.binds (ps:=["_law_box_here","_law_machine_here"]) λ_ _ _ _ _ _=>us2 λ_ _=>rfl
 have F10z:=jd2 (st:=yx) l15 c15 k15
 have m10z:=Iq X G a15
 have b10z:=F10z.binds (ps:=["_law_box_here","_law_machine_here","_law_most"]) λ_ _ _ _ _ _=>us3 λ_ _ _=>rfl
 have F2z:=jd2 (st:=y9) l16 c16 k16
 have m2z:=Iq X G a16
 have b2z:=F2z.binds (ps:=["_law_one","_law_other_here","_law_way"]) λ_ _ _ _ _ _=>us3 λ_ _ _=>rfl
 have F12z:=jd2 (st:=yj) l17 c17 k17
 have m12z:=Iq X G a17
 have b12z:=F12z.binds (ps:=["_law_due"]) λ_ _ _ _ _ _=>us1 λ_=>rfl
 have F5z:=jd2 (st:=yu) l18 c18 k18
 have m5z:=Iq X G a18
 have b5z:=F5z.binds (ps:=["_law_one","_law_other_here"]) λ_ _ _ _ _ _=>us2 λ_ _=>rfl
 have F_law:=jd2 (st:=jad) l19 c19 k19
 have m_law:=Iq X G a19
 have b_law:=F_law.binds (ps:=["_law_script"]) λ_ _ _ _ _ _=>us1 λ_=>rfl
 have n_len:=Os X G z_len
 have n_int:=Os X G z_int
 have n_range:=Os X G z_range
 have n_list:=Os X G z_list
 have n_tuple:=Os X G z_tuple
 have n_enumerate:=Os X G z_enumerate
 have n_max:=Os X G z_max
 have n_sorted:=Os X G z_sorted
 have n_repr:=Os X G z_repr
 have n_isinstance:=Os X G z_isinstance
 refine⟨PySem.W.fnOf "law" "law" (j6 jad) (jt jad) (jh jad) .none kV19 dc19 pm19 an19 cd19 ct19,λs v=>.of_eq rfl,λbase kb _ hbt=>?_⟩
 have hd2:PySem.W.CodeHd base cy 178:=PySem.W.codeHd_of_K kb hcy
 have nsD:PySem.W.nsOkIn K ND=true:=jm8 lnD eoD
 have tl:PySem.W.tailIn K bmVE (.ref D::bmVE)=true:=jn2 lD nsD inD
 have ns4:PySem.W.nsOkIn K N4=true:=jm8 ln4 eo4
 simp only[Up,Il,Aj,W3,not_or,List.nodup_nil,Ii,not_false_eq_true]at apr
 obtain⟨⟨n0,n1,n2,n3,n4D⟩,⟨_,_,_,d0⟩,⟨_,_,d1⟩,⟨_,d2⟩,d3⟩:=apr
 have kt0:=jhd lc4 lc0 ty0 n0 d0
 have kt1:=jhd lc4 lc1 ty1 n1 d1
 have kt2:=jhd lc4 lc2 ty2 n2 d2
 have kt3:=jhd lc4 lc3 ty3 n3 d3
 have c_O:XC K C4 D N4:=⟨⟨_,_,_,_,_,_,_,_,_,_,_,_,_,lc4⟩,tl,ns4,sa4,ga4,gx4,kp4⟩
 have xt:XT K D:=⟨_,_,_,_,_,_,_,_,_,_,_,_,_,_,_,_,_,lD,by decide⟩
 have m_CalmError:=Iq X G aD
 have m_BadLetters:=Iq X G ac0
 have m_BadRoom:=Iq X G ac1
 have m_BadText:=Iq X G ac2
 have m_NoLetter:=Iq X G ac3
 have m_OtherLetters:=Iq X G ac4
 have m19z:=Iq X G acu
 have F19z:=jj7 (st:=zc) lcu ccu kcu
 have b_come_up2:Binds K _ ["first","signs","step","most","at"] [.int 0 tkd]:=F19z.binds ltd rfl λ_ _ _ _ _ _ us hl=>by obtain⟨_,_,_,_,rfl⟩:=us4 (C:=λus=>∃a b c d,us=[a,b,c,d]) (λa b c d=>⟨a,b,c,d,rfl⟩) us (by simpa using hl);exact⟨_,rfl,rfl⟩
 have h_come_up2:Vals [.int 0] [.int 0 tkd]:=.cons ⟨_,rfl⟩ .nil
 have g_come_upT:=ok_come_upT (P:=l.prog) (w:=w) (base:=base)  F19z ⟨n_len,n_tuple,n_range⟩
 have m18z:=Iq X G awp
 have F18z:=jj7 (st:=yf) lwp cwp kwp
 have b18z:Binds K _ ["one","other","most"] [.none]:=F18z.binds ltw rfl λ_ _ _ _ _ _ us hl=>by obtain⟨_,_,rfl⟩:=us2 (C:=λus=>∃a b,us=[a,b]) (λa b=>⟨a,b,rfl⟩) us (by simpa using hl);exact⟨_,rfl,rfl⟩
 have h_walked_pairs:Vals [.non] [.none]:=.cons rfl .nil
 have g18z:=ok_walked_pairs (P:=l.prog) (w:=w) (base:=base) (Pt:=178) F18z ⟨n_len,m19z,rfl,hd2,hbt 178 (.head _)⟩ ecy F19z b_come_up2 h_come_up2 g_come_upT
 have g0z:=ok__law_take (P:=l.prog) (w:=w) (mg:=mg) (base:=base) F0z
 have g7z:=ok__law_box (P:=l.prog) (w:=w) (base:=base)  F7z ⟨n_len,n_int⟩
 have g3z:=ok__law_letters (P:=l.prog) (w:=w) (base:=base)  F3z ⟨n_len,n_list,n_range,m0z⟩ F0z b0z g0z
 have g1z:=ok__law_machine (P:=l.prog) (w:=w) (base:=base)  F1z ⟨n_len,n_max,n_range,n_tuple,m0z⟩ F0z b0z g0z
 have g6z:=ok_head_of (P:=l.prog) (w:=w) (mg:=mg) (base:=base) F6z
 have g15z:=ok_join_rooms (P:=l.prog) (w:=w) (base:=base)  F15z ⟨m6z⟩ F6z b6z g6z
 have g13z:=ok_apart (P:=l.prog) (w:=w) (base:=base)  F13z ⟨n_len,n_list,n_range,n_enumerate,m15z⟩ F15z b15z g15z
 have g4z:=ok_look_same_letters (P:=l.prog) (w:=w) (base:=base)  F4z ⟨m_OtherLetters,c_O,in4⟩
 have g17z:=ok_side_by_side (P:=l.prog) (w:=w) (base:=base)  F17z ⟨n_len,n_list,n_tuple⟩
 have g14z:=ok_compared (P:=l.prog) (w:=w) (base:=base)  F14z ⟨n_len,n_sorted,m4z,m13z,m17z,m18z⟩ F4z b4z g4z F13z b13z g13z F17z b17z g17z F18z b18z h_walked_pairs g18z
 have g16z:=ok_pairs_hold (P:=l.prog) (w:=w) (base:=base)  F16z ⟨m4z⟩ F4z b4z g4z
 have g11z:=ok__law_pairs (P:=l.prog) (w:=w) (base:=base)  F11z ⟨n_len,n_sorted,n_enumerate⟩
 have g9z:=ok__law_copied (P:=l.prog) (w:=w) (base:=base)  F9z ⟨n_len,n_list,n_range,n_tuple,m0z⟩ F0z b0z g0z
 have g8z:=ok__law_changed (P:=l.prog) (w:=w) (base:=base)  F8z ⟨n_len,n_list,n_tuple,m0z⟩ F0z b0z g0z
 have g10z:=ok__law_other (P:=l.prog) (w:=w) (base:=base)  F10z ⟨m0z,m3z,m1z,m9z,m8z⟩ F0z b0z g0z F3z b3z g3z F1z b1z g1z F9z b9z g9z F8z b8z g8z
 have g2z:=ok__law_told (P:=l.prog) (w:=w) (base:=base)  F2z ⟨n_int,n_isinstance,m14z,m16z,m_CalmError,xt,m_OtherLetters,m_BadLetters,m_BadRoom,m_BadText,m_NoLetter,c_O,rfl,⟨cc4,ob4⟩,kt0,kt1,kt2,kt3⟩ F14z b14z g14z F16z b16z g16z
 have g12z:=ok__law_turned (P:=l.prog) (w:=w) (base:=base)  F12z ⟨n_sorted⟩
 have g5z:=ok__law_right (P:=l.prog) (w:=w) (base:=base)  F5z ⟨n_range,n_repr,m11z,m2z,m12z⟩ F11z b11z g11z F2z b2z g2z F12z b12z g12z
 exact ok_law F_law ⟨n_len,n_range,n_int,m7z,m0z,m3z,m1z,m10z,m5z⟩ F7z b7z g7z F0z b0z g0z F3z b3z g3z F1z b1z g1z F10z b10z g10z F5z b5z g5z
theorem jo4{K:PySem.W.Frag}{H:Hp}{a t:Addr}{xs:List V}{ps:Array Value}(hS:SqL K H a xs)(hT:H t=some (.tbl ps))(hK:K.lookup t=none):a≠t:=by
 rintro rfl
 rcases hS with(h|⟨o,h⟩)|⟨o,its,n,h,_⟩
 ·rw[hT]at h;cases h
 ·rw[hT]at h;cases h
 ·rw[hK]at h;cases h
theorem walk{l:PySem.W.OpenLaw}{q:Program}{loose:List Str}{XP:(Str->Option Value)->Heap->Prop}{YP:World->Heap->Prop}{d:DefRec}{K:Params->PySem.W.Frag}(hn:l.most=some 63)(hdf:d.params.defaults=[])
  (hY:∀(w:World)(h:Heap),YP w h->(K w.params).In h) (hT:∀(w:World)(h:Heap),YP w h->∀t∈[178],h.get? t=some (PySem.W.tabObj #[]))
  (hC:∀(w:World)(h:Heap),(K w.params).In h->∀t∈[178],∃c,PySem.W.CodeHd h c t) (hN:∀w:World,∀t∈[178],(K w.params).lookup t=none)
  (F:∀(w:World)(mg:Str->Option Value)(fa:Addr)(h:Heap),(K w.params).In h->h.Ns mainGlobals mg->mg d.name=some (.ref fa) ->
   ∃fd:FuncData,(∀(s:Shared)(u:Value),BindsTo s fd ⟨[u],[]⟩ [("_law_script",u)])/\∀base:Heap,(K w.params).In base->base.Ns mainGlobals mg->(∀t∈[178],base.BuiltinsAt mg t)->FnOk l.prog w (K w.params) mg base CX0 9 fa fd ["_law_script"] (jho (K w.params) 178)) :
  PySem.W.WalkO q loose XP YP l.row.toRowW d [] (λf vs=>PySem.call f vs) :=
 L2.walk_ofT (n:=63) (k:=9) (x:="_law_script") (ts:=[178]) (CX:=λ_=>CX0) (sp:=λw=>jho (K w.params) 178) hn (by decide) hdf ⟨rfl,by decide,by decide,rfl⟩ hY hT hC hN F (λw _ a ns hl hS hT=>⟨a,ns,rfl,hS,hl,jo4 hS (hT 178 (.head _)) (hN w 178 (.head _)),⟨#[],hT 178 (.head _),trivial,λp cv e=>by cases e⟩,λ_=>rfl⟩) λ_ _ _ _ _ z=>z
end My
namespace PySem.W.Fast
theorem tw222783787289328091:0=0:=rfl
theorem tw16501858405851474080:0=0:=rfl
theorem tw16171898788033017952:0=0:=rfl
theorem tw11776645166563475446:0=0:=rfl
theorem tw15263290512581045875:0=0:=rfl
theorem tw7652690898704181210:0=0:=rfl
theorem tw13640986055968361532:0=0:=rfl
theorem tw11579357358251371515:0=0:=rfl
theorem tw16611993941128875810:0=0:=rfl
theorem tw17006532054143799404:0=0:=rfl
theorem tw6991008771179673139:0=0:=rfl
theorem tw386703878742634512:0=0:=rfl
theorem tw7652912831821708795:0=0:=rfl
theorem tw4453043280526887154:0=0:=rfl
theorem tw10993721681597753535:0=0:=rfl
theorem tw9573293299091443455:0=0:=rfl
theorem tw17087314888174048536:0=0:=rfl
theorem tw1797133765815113918:0=0:=rfl
theorem tw8970884773207902760:0=0:=rfl
theorem tw14839628226362405947:0=0:=rfl
theorem tw18358222071181526450:0=0:=rfl
theorem tw9420647164469024884:0=0:=rfl
theorem tw15992579454533178792:0=0:=rfl
theorem tw11527303641035906919:0=0:=rfl
theorem tw15043640905809618271:0=0:=rfl
theorem tw4181477516313183814:0=0:=rfl
theorem tw13221582899742915634:0=0:=rfl
theorem tw4729385128564060861:0=0:=rfl
theorem tw7643304031497840094:0=0:=rfl
theorem tw8085653519609213264:0=0:=rfl
theorem tw15727239753741098425:0=0:=rfl
theorem tw4549650157456507713:0=0:=rfl
theorem tw2119228126859614241:0=0:=rfl
theorem tw7497858373641246950:0=0:=rfl
theorem tw18124441666259935484:0=0:=rfl
theorem tw21359135314912121:0=0:=rfl
theorem tw15439190922795748967:0=0:=rfl
theorem tw9394819707190390578:0=0:=rfl
theorem tw13364975361109485700:0=0:=rfl
theorem tw15305022660061396477:0=0:=rfl
theorem tw13304827505680930060:0=0:=rfl
theorem tw128666977009069675:0=0:=rfl
theorem tw12327797132649052263:0=0:=rfl
theorem tw18392311054672420371:0=0:=rfl
theorem tw8027725441853708616:0=0:=rfl
theorem tw1600239109953412993:0=0:=rfl
theorem tw7536154297208745528:0=0:=rfl
theorem tw15089268808546147360:0=0:=rfl
theorem tw15462350060740146323:0=0:=rfl
theorem tw15188765924077791974:0=0:=rfl
theorem tw1341452662128491019:0=0:=rfl
theorem tw15923159241660269210:0=0:=rfl
theorem tw1028404361348020840:0=0:=rfl
theorem tw15211718222610803857:0=0:=rfl
theorem tw10642267677360084274:0=0:=rfl
theorem tw17615937209058988354:0=0:=rfl
theorem tw15763549946438939381:0=0:=rfl
theorem tw18366712891000273648:0=0:=rfl
theorem tw3464200103690671960:0=0:=rfl
theorem tw7462606448206591676:0=0:=rfl
theorem tw6623146605631343398:0=0:=rfl
theorem tw8631131471013428696:0=0:=rfl
theorem tw6829134308831596887:0=0:=rfl
theorem tw1670106898730449134:0=0:=rfl
theorem tw16359260910838402217:0=0:=rfl
theorem tw17903424194539118293:0=0:=rfl
theorem tw18323702957612933405:0=0:=rfl
theorem tw3453316088497468802:0=0:=rfl
theorem tw2410832544880910360:0=0:=rfl
theorem tw12365818772240830892:0=0:=rfl
theorem tw4870230061545185614:0=0:=rfl
theorem tw17160710266755503328:0=0:=rfl
theorem tw12266298356222943645:0=0:=rfl
theorem tw16766851940550314507:0=0:=rfl
theorem tw1550223048808974380:0=0:=rfl
theorem tw13991616317840590887:0=0:=rfl
theorem tw13183195044023701391:0=0:=rfl
theorem tw11677129052241385498:0=0:=rfl
theorem tw9990525982706135090:0=0:=rfl
theorem tw4605565458890308284:0=0:=rfl
theorem tw11751657591149615068:0=0:=rfl
theorem tw862064952818789289:0=0:=rfl
theorem tw1025315298171294561:0=0:=rfl
theorem tw7760043037040994219:0=0:=rfl
theorem tw9541431237970111219:0=0:=rfl
theorem tw18360576183263751591:0=0:=rfl
theorem tw10822075103850742334:0=0:=rfl
theorem tw9048122616025186142:0=0:=rfl
theorem tw8569646045617901798:0=0:=rfl
theorem tw14567100049485109767:0=0:=rfl
theorem tw4502432776260354373:0=0:=rfl
theorem tw7903477321709332720:0=0:=rfl
theorem tw3153351125621934078:0=0:=rfl
theorem tw2919695175244831824:0=0:=rfl
theorem tw2804728439326240620:0=0:=rfl
theorem tw1872894739776355374:0=0:=rfl
theorem tw5999823460735632472:0=0:=rfl
theorem tw3904900516016104014:0=0:=rfl
theorem tw8515942312055858472:0=0:=rfl
theorem tw3953524843094393699:0=0:=rfl
theorem tw6737915930749891683:0=0:=rfl
theorem tw15109625310252715011:0=0:=rfl
theorem tw11179810952933981552:0=0:=rfl
theorem tw9852569455786294338:0=0:=rfl
theorem tw858814482630709322:0=0:=rfl
theorem tw71784522014732506:0=0:=rfl
theorem tw8841370189273143702:0=0:=rfl
theorem tw1542262100349616691:0=0:=rfl
theorem tw11865504524515857823:0=0:=rfl
theorem tw5866344050893626962:0=0:=rfl
theorem tw10889035570944843559:0=0:=rfl
theorem tw5293833535126250760:0=0:=rfl
theorem tw9012057725123377591:0=0:=rfl
theorem tw12017344112450551735:0=0:=rfl
theorem tw13182247348865244149:0=0:=rfl
theorem tw7348741568308843236:0=0:=rfl
theorem tw18081227082163978482:0=0:=rfl
theorem tw13027167836381246265:0=0:=rfl
theorem tw7641561490868064286:0=0:=rfl
theorem tw8356795166316111160:0=0:=rfl
theorem tw15169100540210004179:0=0:=rfl
theorem tw16906537770822144297:0=0:=rfl
theorem tw8759362207106897297:0=0:=rfl
theorem tw14839492369607361948:0=0:=rfl
theorem tw11608848065930048773:0=0:=rfl
theorem tw7226791792386827759:0=0:=rfl
theorem tw2281291370196959686:0=0:=rfl
theorem tw16095956054084209467:0=0:=rfl
theorem tw8904933281070606923:0=0:=rfl
theorem tw4958320043383611410:0=0:=rfl
theorem tw15078033942940744875:0=0:=rfl
theorem tw10637095520043820966:0=0:=rfl
theorem tw14548399107498935526:0=0:=rfl
theorem tw3669750707899461797:0=0:=rfl
theorem tw2528893121286585867:0=0:=rfl
theorem tw14351817616835426486:0=0:=rfl
theorem tw10651737524605826886:0=0:=rfl
theorem tw8746750269178950799:0=0:=rfl
theorem tw6892022338698836294:0=0:=rfl
theorem tw19322565321607743:0=0:=rfl
theorem tw17698150487384569220:0=0:=rfl
theorem tw1536289988291129588:0=0:=rfl
theorem tw16956379460688172935:0=0:=rfl
theorem tw12914294347141304158:0=0:=rfl
theorem tw5384490129278002836:0=0:=rfl
theorem tw2852979597332680823:0=0:=rfl
theorem tw13518045551379391564:0=0:=rfl
theorem tw9207927548941154468:0=0:=rfl
theorem tw13497920326622220996:0=0:=rfl
theorem tw8291043173790813348:0=0:=rfl
theorem tw12778655819096530964:0=0:=rfl
theorem tw1986433833890311374:0=0:=rfl
theorem tw12481182617972322970:0=0:=rfl
theorem tw13375358982099016385:0=0:=rfl
theorem tw17855943604157903756:0=0:=rfl
theorem tw5519179890842497611:0=0:=rfl
theorem tw17318798530158925273:0=0:=rfl
theorem tw9866077736151515587:0=0:=rfl
theorem tw8505002589025247817:0=0:=rfl
theorem tw2367619481086934639:0=0:=rfl
theorem tw16946266487673253931:0=0:=rfl
theorem tw13705860490436313006:0=0:=rfl
theorem tw11690170200860768902:0=0:=rfl
theorem tw7447162227218446409:0=0:=rfl
theorem tw5693551688642682180:0=0:=rfl
theorem tw3355847741653206848:0=0:=rfl
theorem tw11804301847704404891:0=0:=rfl
theorem tw17853138141139985311:0=0:=rfl
theorem tw7422417291666456766:0=0:=rfl
theorem tw16841165194516111965:0=0:=rfl
theorem tw1722722997638192011:0=0:=rfl
theorem tw12845331559984720263:0=0:=rfl
theorem tw11160573723011279541:0=0:=rfl
theorem tw14272328160304225679:0=0:=rfl
theorem tw1579197548761886683:0=0:=rfl
theorem tw15422724857681687249:0=0:=rfl
theorem tw8822663263505391306:0=0:=rfl
theorem tw9940920236927965195:0=0:=rfl
theorem tw3258602607525588414:0=0:=rfl
theorem tw2565918443950487411:0=0:=rfl
theorem tw910939597962884629:0=0:=rfl
theorem tw6684517307291129496:0=0:=rfl
theorem tw2407246666340465731:0=0:=rfl
theorem tw17288652609812399413:0=0:=rfl
theorem tw16049511364397755914:0=0:=rfl
theorem tw14338764918670706381:0=0:=rfl
theorem tw14250260283384582110:0=0:=rfl
theorem tw11952241637457886998:0=0:=rfl
theorem tw6289062513486162706:0=0:=rfl
theorem tw5912164857475853326:0=0:=rfl
theorem tw1614844341921892699:0=0:=rfl
theorem tw13322078583355780110:0=0:=rfl
theorem tw10912900856048864245:0=0:=rfl
theorem tw10466635987414527588:0=0:=rfl
theorem tw10066735929614469313:0=0:=rfl
theorem tw17912444883486643347:0=0:=rfl
theorem tw15493553030780933785:0=0:=rfl
theorem tw6753598792510548409:0=0:=rfl
theorem tw4636625818475962664:0=0:=rfl
theorem tw4321427105735538343:0=0:=rfl
theorem tw2500179315435823469:0=0:=rfl
theorem tw18364862233340668463:0=0:=rfl
theorem tw181987704552255832:0=0:=rfl
theorem tw95897549149248461:0=0:=rfl
theorem tw4666717938740131468:0=0:=rfl
theorem tw3835029554925504422:0=0:=rfl
theorem tw18080472086837060653:0=0:=rfl
theorem tw14672286769664330921:0=0:=rfl
theorem tw14273183032501756281:0=0:=rfl
theorem tw10662385420994062539:0=0:=rfl
theorem tw14971411400852631383:0=0:=rfl
theorem tw9873593567083447970:0=0:=rfl
theorem tw9612923505647655234:0=0:=rfl
theorem tw9534123190193601623:0=0:=rfl
theorem tw9432418851001985309:0=0:=rfl
theorem tw8942651681319550223:0=0:=rfl
theorem tw8851437641483298076:0=0:=rfl
theorem tw8331145236410199556:0=0:=rfl
theorem tw8041173420326481620:0=0:=rfl
theorem tw7972887043468374670:0=0:=rfl
theorem tw7730365973977523128:0=0:=rfl
theorem tw756755331274096219:0=0:=rfl
theorem tw7485554273433809880:0=0:=rfl
theorem tw6965556538777642785:0=0:=rfl
theorem tw6908518567120031600:0=0:=rfl
theorem tw6866845246831426744:0=0:=rfl
theorem tw6688296409885570745:0=0:=rfl
theorem tw5605532281369071105:0=0:=rfl
theorem tw559177064421088356:0=0:=rfl
theorem tw4439199391563164056:0=0:=rfl
theorem tw4206183918751095798:0=0:=rfl
theorem tw3948952237383028999:0=0:=rfl
theorem tw3835457856619558159:0=0:=rfl
theorem tw3384901712804028317:0=0:=rfl
theorem tw2893419896043166802:0=0:=rfl
theorem tw2763955597125160288:0=0:=rfl
theorem tw2578579389611737921:0=0:=rfl
theorem tw18191949476777832344:0=0:=rfl
theorem tw17044858047403456259:0=0:=rfl
theorem tw16739323553856938516:0=0:=rfl
theorem tw1609442062130918587:0=0:=rfl
theorem tw15783763580687816565:0=0:=rfl
theorem tw15366633622736088620:0=0:=rfl
theorem tw15125295389440203728:0=0:=rfl
theorem tw15028772015689364416:0=0:=rfl
theorem tw14598020663844715877:0=0:=rfl
theorem tw14375578047332031869:0=0:=rfl
theorem tw14373155833339486831:0=0:=rfl
theorem tw14008352254661658845:0=0:=rfl
theorem tw13835347035670061853:0=0:=rfl
end PySem.W.Fast
open PySem PySem.W PyProof.Rows
set_option maxRecDepth 100000 in
set_option maxHeartbeats 0 in
theorem PySem.Challenge.cw_calmword_k09_whole_two_machines_held_holds : PySem.Challenge.rw_calmword_k09_whole_two_machines_held.Holds := by
 w_on;o_law;k_head;(case hw=>w_witness2)
 k_fill
 refine My.walk (l:=PySem.Challenge.rw_calmword_k09_whole_two_machines_held) rfl rfl (λw h Y=>PySem.W.km_in_of Y) (λw h Y=>PySem.W.km_tabs_of Y) ?cC ?cN ?F
 case cC=>intro w h X t ht;cases Ai.mp ht;refine' My.c_of X ?h3 ?h4 ?h5 ?h6;(case h3=>k_is);(case h4=>k_is);(case h5=>rfl);(case h6=>kernel_rfl)
 case cN=>exact λw t ht=>by cases Ai.mp ht;rfl
 case F =>
  intro w mg fa h KX G hmg
  refine' My.all_mk KX G hmg ?a1 ?l1 ?c1 ?k1 ?a2 ?l2 ?c2 ?k2 ?a3 ?l3 ?c3 ?k3 ?a4 ?l4 ?c4 ?k4 ?a5 ?l5 ?c5 ?k5 ?a6 ?l6 ?c6 ?k6 ?a7 ?l7 ?c7 ?k7 ?a8 ?l8 ?c8 ?k8 ?a9 ?l9 ?c9 ?k9 ?a10 ?l10 ?c10 ?k10 ?a11 ?l11 ?c11 ?k11 ?a12 ?l12 ?c12 ?k12 ?a13 ?l13 ?c13 ?k13 ?a14 ?l14 ?c14 ?k14 ?a15 ?l15 ?c15 ?k15 ?a16 ?l16 ?c16 ?k16 ?a17 ?l17 ?c17 ?k17 ?a18 ?l18 ?c18 ?k18 ?a19 ?l19 ?c19 ?k19 ?z_len ?z_int ?z_range ?z_list ?z_tuple ?z_enumerate ?z_max ?z_sorted ?z_repr ?z_isinstance ?acu ?lcu ?ccu ?kcu ?ltd ?awp ?lwp ?cwp ?kwp ?ltw ?ecy ?hcy ?aD ?lD ?lnD ?eoD ?inD ?ac0 ?lc0 ?ty0 ?ac1 ?lc1 ?ty1 ?ac2 ?lc2 ?ty2 ?ac3 ?lc3 ?ty3 ?ac4 ?lc4 ?ln4 ?eo4 ?sa4 ?ga4 ?gx4 ?kp4 ?cc4 ?ob4 ?in4 ?apr
  (case a1=>k_is)
  (case l1=>k_is)
  (case c1=>k_is)
  (case k1=>k_is)
  (case a2=>k_is)
  (case l2=>k_is)
  (case c2=>k_is)
  (case k2=>k_is)
  (case a3=>k_is)
  (case l3=>k_is)
  (case c3=>k_is)
  (case k3=>k_is)
  (case a4=>k_is)
  (case l4=>k_is)
  (case c4=>k_is)
  (case k4=>k_is)
  (case a5=>k_is)
  (case l5=>k_is)
  (case c5=>k_is)
  (case k5=>k_is)
  (case a6=>k_is)
  (case l6=>k_is)
  (case c6=>k_is)
  (case k6=>k_is)
  (case a7=>k_is)
  (case l7=>k_is)
  (case c7=>k_is)
  (case k7=>k_is)
  (case a8=>k_is)
  (case l8=>k_is)
  (case c8=>k_is)
  (case k8=>k_is)
  (case a9=>k_is)
  (case l9=>k_is)
  (case c9=>k_is)
  (case k9=>k_is)
  (case a10=>k_is)
  (case l10=>k_is)
  (case c10=>k_is)
  (case k10=>k_is)
  (case a11=>k_is)
  (case l11=>k_is)
  (case c11=>k_is)
  (case k11=>k_is)
  (case a12=>k_is)
  (case l12=>k_is)
  (case c12=>k_is)
  (case k12=>k_is)
  (case a13=>k_is)
  (case l13=>k_is)
  (case c13=>k_is)
  (case k13=>k_is)
  (case a14=>k_is)
  (case l14=>k_is)
  (case c14=>k_is)
  (case k14=>k_is)
  (case a15=>k_is)
  (case l15=>k_is)
  (case c15=>k_is)
  (case k15=>k_is)
  (case a16=>k_is)
  (case l16=>k_is)
  (case c16=>k_is)
  (case k16=>k_is)
  (case a17=>k_is)
  (case l17=>k_is)
  (case c17=>k_is)
  (case k17=>k_is)
  (case a18=>k_is)
  (case l18=>k_is)
  (case c18=>k_is)
  (case k18=>k_is)
  (case a19=>k_is)
  (case l19=>k_is)
  (case c19=>k_is)
  (case k19=>k_is)
  (case z_len=>k_is)
  (case z_int=>k_is)
  (case z_range=>k_is)
  (case z_list=>k_is)
  (case z_tuple=>k_is)
  (case z_enumerate=>k_is)
  (case z_max=>k_is)
  (case z_sorted=>k_is)
  (case z_repr=>k_is)
  (case z_isinstance=>k_is)
  (case acu=>k_is)
  (case lcu=>k_is)
  (case ccu=>k_is)
  (case kcu=>k_is)
  (case ltd=>k_is)
  (case awp=>k_is)
  (case lwp=>k_is)
  (case cwp=>k_is)
  (case kwp=>k_is)
  (case ltw=>k_is)
  (case ecy=>rfl)
  (case hcy=>kernel_rfl)
  (case aD=>k_is)
  (case lD=>k_is)
  (case lnD=>k_is)
  (case eoD=>first|(simp;done)|rfl)
  (case inD=>k_is)
  (case ac0=>k_is)
  (case lc0=>k_is)
  (case ty0=>k_is)
  (case ac1=>k_is)
  (case lc1=>k_is)
  (case ty1=>k_is)
  (case ac2=>k_is)
  (case lc2=>k_is)
  (case ty2=>k_is)
  (case ac3=>k_is)
  (case lc3=>k_is)
  (case ty3=>k_is)
  (case ac4=>k_is)
  (case lc4=>k_is)
  (case ln4=>k_is)
  (case eo4=>first|(simp;done)|rfl)
  (case sa4=>k_is)
  (case ga4=>k_is)
  (case gx4=>k_is)
  (case kp4=>k_is)
  (case cc4=>k_is)
  (case ob4=>k_is)
  (case in4=>k_is)
  (case apr=>first|decide|(simp;done))