import PyProof.Rows.All
import Wide.All
import OpenK.AllK
import Wide.FinOn
import Lean
import PyProof.EqAt
import PyProof.EqKinds
import PyProof.TupleCall
import PyProof.SetScanFacts
import PyProof.Logic
import PyProof.FactsBase
import PyProof.TableTree
import PyProof.FactsTree
import PyProof.PlainAttrs
import PyProof.DictWalks
import PyProof.SetKind
import PyProof.ForAny
import PyProof.FactsAll.set_1
import PyProof.CollectWalk
import PyProof.WalkLemmas
import PyProof.FactsAll.set_2
import PyProof.Walk
import PyProof.Rows.SortStr
import KE.KRevIter
import KE.KDictList
import KE.KDictLaws
import PyProof.FString
import OpenK.KTop
import PyProof.StrLawsTight
import PyProof.Rows.StrLawsPart
import KE.KIntText
import PyProof.Rows.StrSplitJoin
import PyProof.ZipIter
import PyProof.WalksMore
import KE.IntTextLaws
import KE.KDictOf
import PyProof.AttrMissHeap
import PyProof.EnumMake
import PyProof.EnumFor
import PyProof.Draws
import PyProof.DictItems
import KE.KPairComp
import KE.KSortTup
import PyProof.Rows.SortWalk
import PySem.Challenge.RW_layersplit_k23_shut_out
set_option Elab.async false
set_option linter.all false
set_option maxRecDepth 100000
set_option compiler.extract_closed false
def a_:=@PySem.wpAny_bind
def b_:=@PySem.Heap.get?_push_of_some
def c_:=@List.length_map
def d_:=@List.getElem?_eq_some_iff
def e_:=@PySem.wpAny_pure
def f_:=@Nat.le_refl
def g_:=@PySem.Heap.get?_push_size
def hY:=@List.getElem?_eq_getElem
def h_:=@List.mem_of_getElem?
def ig:=@List.getElem?_map
def il:=@List.map_append
def iq:=@PySem.Heap.lt_size
def ir:=@if_neg
def iA:=@List.length_append
def i_:=@if_pos
def ji:=@Option.some.inj
def j1:=@PySem.sizeLine_eq
def j2:=@Int.natCast_nonneg
def j_:=@List.size_toArray
def ku:=@List.take_of_length_le
def kw:=@List.mem_cons_of_mem
def k4:=@Nat.ne_of_lt
def k_:=@List.mem_iff_getElem?
def lh:=@of_decide_eq_true
def lm:=@Bool.false_ne_true
def l_:=@List.mem_cons_self
def mo:=@List.mem_map
def mu:=@Nat.le_trans
def m3:=@decide_eq_true
def m_:=@Nat.zero_le
def nk:=@decide_eq_false
def nn:=@Array.length_toList
def no:=@List.length_take
def np:=@List.map_cons
def n0:=@Nat.lt_of_lt_of_le
def n7:=@Bool.and_eq_true
def n_:=@PySem.Heap.size_push
def oe:=@List.not_mem_nil
def oi:=@List.length_cons
def op:=@PySem.PassesOwn.never
def ot:=@Nat.ne_of_gt
def oD:=@List.getElem?_set_ne
def o0:=@List.getElem?_eq_none
def o_:=@Ne.symm
def pa:=@List.mem_append_right
def pu:=@Int.toNat_natCast
def pv:=@List.mem_cons
def pw:=@PySem.wpAny_setField_rec
def p_:=@PySem.wpAny_holding
def qq:=@PySem.wpAny_call_entry
def qx:=@List.nodup_append
def q4:=@PySem.wpAny_callSpecial?_slot
def q_:=@List.getElem?_append_left
def rb:=@PySem.wpAny_newObj_type
def rd:=@Nat.succ_pos
def ri:=@Nat.lt_succ_of_lt
def rk:=@Nat.le_succ
def rl:=@List.length_range
def rm:=@Nat.lt_irrefl
def ro:=@Sum.inr.inj
def rr:=@List.append_nil
def rx:=@Nat.lt_succ_self
def ry:=@PySem.wpAny_field
def rV:=@Nat.lt_of_le_of_lt
def r3:=@List.find?_cons_of_neg
def r4:=@PySem.wpAny_seqItems
def r_:=@List.replicate_succ
def sf:=@PySem.wpAny_truthy_bool
def sg:=@List.getElem?_append_right
def si:=@List.getD_eq_getElem?_getD
def sm:=@PySem.Calls.spliced_cons
def so:=@List.find?_cons
def sD:=@Int.natCast_pos
def sT:=@List.find?_cons_of_pos
def s_:=@PySem.Calls.callWith_builtin
def ta:=@List.take_append_drop
def th:=@PySem.Heap.get?_update_self
def tl:=@congrArg
def to:=@List.mem_range
def tx:=@Nat.succ_le_succ
def tA:=@List.mem_append_left
def t0:=@PySem.codeAny_mono
def t2:=@Nat.le_of_lt
def t_:=@List.map_map
def u1:=@PySem.Heap.get?_update_other
def u_:=@PySem.wpAny_ite_split
def vl:=@PySem.codeAny_builtin
def vr:=@List.mem_filter
def vu:=@List.length_set
def v1:=@List.mem_or_eq_of_mem_set
def v3:=@Array.getElem?_eq_getElem
def v_:=@List.length_filter_le
def wh:=@Array.getElem?_toList
def wr:=@PySem.wpAny_Call_Name_kw
def w1:=@List.any_cons
def w_:=@or_false
def x_:=@List.take_zero
def yl:=@PySem.Calls.evalArgs_plain
def y2:=@PySem.Around.under_plainId
def y_:=@Nat.le_succ_of_le
def zz:=@List.ext_getElem?
def z0:=@PyProof.Rows.F.plain_set_update_loop
def z3:=@PySem.Calls.spliced_nil
def z4:=@PySem.wpAny_rule
def z7:=@List.foldl_cons
def z8:=@List.filterMap_cons
def z_:=@PyProof.Rows.callWith_type1
def A_:=@List.getElem?_set_self
def B_:=@beq_self_eq_true
def C1:=@List.getElem_mem
def C2:=@PySem.wpAny_pyIter_tuple
def C_:=@List.mem_filterMap
def D_:=@List.length_replicate
def Es:=@List.filterMap_append
def E1:=@PySem.wpAny_dictEpoch
def E_:=@Nat.lt_trans
def F_:=@List.take_add_one
def G_:=@List.append_assoc
def H_:=@Option.isSome_iff_exists
def I_:=@beq_eq_false_iff_ne
def J_:=@PySem.Heap.SameBut.update
def K_:=@Nat.le_add_right
def L_:=@PySem.tupleKind_room_in1
def M_:=@PySem.call_meetsIn
def N_:=@PySem.wpAny_setState_of
def O_:=@PySem.wpAny_pyIter_list
def Px:=@List.getElem?_inj
def Py:=@List.foldl_append
def Pz:=@List.flatten_cons
def PB:=@Nat.pow_le_pow_right
def PD:=@List.nodup_iff_pairwise_ne
def PF:=@PySem.Heap.get?_push_cases
def PH:=@PySem.F.slot_tuple_iterator_next
def PJ:=@PySem.wpAny_askSetting
def PK:=@Nat.le_of_not_lt
def PL:=@Nat.le_of_eq
def PM:=@List.getElem?_eq_none_iff
def PN:=@List.map_congr_left
def PP:=@List.length_take_le
def PQ:=@PySem.plainId_quiet
def PU:=@List.length_filterMap_le
def PV:=@Option.map_some
def PX:=@PySem.F.slot_zip_next
def PY:=@Int.emod_lt_of_pos
def PZ:=@Bool.false_eq_true
def P0:=@PySem.wpAny_getItem_str_slice
def P1:=@PyProof.Rows.F.entry_set_update_loop
def P2:=@PySem.wpAny_Call_method
def P3:=@List.take_sublist
def P4:=@PySem.builtinLookup_eq_fast
def P5:=@List.mem_reverse
def P6:=@List.length_drop
def P7:=@PySem.wpAny_attempt
def P8:=@List.all_cons
def P9:=@PySem.wpAny_updateSeq_pair
def P_:=@List.mem_of_mem_take
def Qa:=@PySem.wpAny_passesOwn
def Qb:=@PySem.wpAny_execs_nil
def Qc:=@List.of_mem_zip
def Qd:=@List.forIn_cons
def Qe:=@Int.emod_nonneg
def Qf:=@PySem.wpAny_setEntries_of
def Qg:=@Nat.mul_le_mul_left
def Qh:=@List.length_reverse
def Qi:=@Int.toNat_of_nonneg
def Qj:=@Nat.lt_or_ge
def Qk:=@List.nodup_nil
def Ql:=@List.getElem?_drop
def Qm:=@Int.fdiv_eq_ediv_of_nonneg
def Qn:=@List.mem_of_find?_eq_some
def Qo:=@Option.some.injEq
def Qp:=@Option.isSome_map
def Qq:=@List.getElem?_set
def Qr:=@PySem.wpAny_onRaise
def Qs:=@List.getElem?_take_of_lt
def Qt:=@List.filterMap_cons_none
def Qu:=@PySem.AutoSeq1.wpAny_loadPart'
def Qv:=@PySem.wpAny_pyIter_zip
def Qw:=@PySem.wpAny_isInstance
def Qx:=@PySem.wpAny_eqBool_str
def Qy:=@if_false
def Qz:=@Nat.le_max_right
def QA:=@List.lookup_cons
def QB:=@List.length_eq_zero_iff
def QC:=@List.filter_cons
def QD:=@List.any_eq_true
def QE:=@PySem.wpAny_call
def QF:=@Nat.pow_succ
def QG:=@PySem.wpAny_specialOf
def QH:=@PySem.typeLookup_type
def QI:=@PySem.post_val_or_str
def QJ:=@PySem.codeAny_of_tree
def QK:=@Nat.not_lt_zero
def QL:=@Nat.le_max_left
def QM:=@List.range_succ
def QN:=@Bool.eq_iff_iff
def QO:=@PySem.weight_type_call_type
def QP:=@List.getElem?_toArray
def QQ:=@PySem.wpAny_runValue
def QR:=@PySem.wpAny_letGo
def QS:=@PySem.isSubtype_type
def QT:=@PySem.codeAny_call_builtin
def QU:=@Prod.mk.inj
def QW:=@List.replicate_succ'
def QX:=@List.Perm.refl
def QY:=@Int.le_refl
def QZ:=@if_true
def Q0:=@List.map_take
def Q1:=@List.map_singleton
def Q2:=@List.filter_append
def Q3:=@PySem.Code.quiet_builtin
def Q4:=@PySem.Around.under_plain
def Q5:=@PySem.wpAny_typeOf
def Q6:=@PySem.wpAny_pyIter_slot
def Q7:=@Nat.sub_self
def Q8:=@Nat.le_of_lt_succ
def Q9:=@List.map_nil
def Q_:=@List.any_eq_false
def Ra:=@List.Sublist.refl
def Rb:=@Int.ofNat_le
def Rc:=@Int.le_of_lt
def Re:=@PySem.F.entry_type_call
def Rf:=@PySem.F.args_zip_next_1
def Rg:=@Array.toList_push
def Rh:=@PyProof.Rows.slot_tuple_getitem
def Ri:=@PySem.wpAny_forIn_list
def Rj:=@PySem.wpAny_execs_cons
def Rk:=@PySem.check_set_init_1
def Rm:=@List.zipIdx_cons
def Rn:=@List.getElem_map
def Rp:=@PySem.F.typeCall_set_1
def Rq:=@PySem.F.entry_zip_next
def Rr:=@PySem.F.entry_set_init
def Rs:=@List.take_append_of_le_length
def Rt:=@PySem.wpAny_updateSeq
def Rv:=@beq_false_of_ne
def Rw:=@Nat.le_add_left
def Rx:=@List.zipIdx_nil
def Ry:=@List.nodup_cons
def Rz:=@List.mem_append
def RA:=@List.Perm.of_eq
def RB:=@PySem.F.args_tuple_iterator_next_1
abbrev RC:=PySem.W.Frag
abbrev RD:=PySem.Value->PySem.Shared->Prop
abbrev RE:=List (PySem.Addr×PySem.Obj)
abbrev RF:=PySem.Str->Option PySem.Value
abbrev RG:=List PySem.Value
abbrev RH:=PySem.Program
abbrev RI:=List PySem.Str
abbrev RJ:=List PySem.Expr
abbrev RK:=Array PySem.Value
abbrev RL:=List Nat
abbrev RM:=List PySem.Addr
abbrev RN:=List Int
namespace L2
open PySem PySem.Spec PyProof.Rows
abbrev bL:=Sum Int Str
def nU:bL->Value->Bool|.inl k,v=>Value.isInt k v|.inr x,v=>Value.isStrOf x v
def Pe(w:World):bL->Int|.inl k=>hashInt k|.inr x=>hashStr w x
def cB:∀{k:bL}{v:Value},nU k v=true->(∃i t,k=Sum.inl i/\v=Value.int i t)\/(∃x t,k=Sum.inr x/\v=Value.str x t)|.inl i,v,h=>by obtain⟨t,e⟩:=Value.isInt_shape (k:=i) (v:=v) h;exact .inl ⟨i,t,rfl,e⟩|.inr x,v,h=>by obtain⟨t,e⟩:=Value.isStrOf_shape (x:=x) (v:=v) h;exact .inr ⟨x,t,rfl,e⟩
def xD(i:Int)(t:Tok):nU (.inl i) (.int i t)=true:=by simp[nU,Value.isInt]
def xC(x:Str)(t:Tok):nU (.inr x) (.str x t)=true:=by simp[nU,Value.isStrOf]
def Ms(a b:Int):decide ((Sum.inl a:bL)=Sum.inl b)=(a==b):=by
 by_cases e:a=b
 ·subst e;simp
 ·have h:¬(Sum.inl a:bL)=Sum.inl b:=λq=>e (Sum.inl.inj q);rw[nk h];exact(I_.mpr e).symm
def Mo(a b:Str):decide ((Sum.inr a:bL)=Sum.inr b)=decide (a=b):=by
 by_cases e:a=b
 ·subst e;simp
 ·have h:¬(Sum.inr a:bL)=Sum.inr b:=λq=>e (ro q);rw[nk h,nk e]
def Mr(a:Int)(b:Str):decide ((Sum.inl a:bL)=Sum.inr b)=false:=nk (nofun)
def Mq(a:Str)(b:Int):decide ((Sum.inr a:bL)=Sum.inl b)=false:=nk (nofun)
def aK(prog:RH)(w:World):PySem.KeyKind prog w bL where
 is:=nU
 hash:=Pe w
 inj:=λv a b g f=>by
  rcases cB g with⟨i,t,rfl,rfl⟩|⟨x,t,rfl,rfl⟩
  ·rcases cB f with⟨j,u,rfl,e⟩|⟨y,u,rfl,e⟩
   ·injection e with c _;rw[c]
   ·exact nomatch e
  ·rcases cB f with⟨j,u,rfl,e⟩|⟨y,u,rfl,e⟩
   ·exact nomatch e
   ·injection e with c _;rw[c]
 byValue:=λk v h=>by rcases cB h with⟨i,t,rfl,rfl⟩|⟨x,t,rfl,rfl⟩<;>rfl
 pyHash:=λd h=>by
  rcases cB d with⟨i,t,rfl,rfl⟩|⟨x,t,rfl,rfl⟩
  ·exact wpAny_pyHash_int h
  ·exact wpAny_pyHash_str h
 eqBool:=λl d h=>by
  rcases cB l with⟨i,t,rfl,rfl⟩|⟨x,t,rfl,rfl⟩
  ·rcases cB d with⟨j,u,rfl,rfl⟩|⟨y,u,rfl,rfl⟩
   ·rw[Ms]at h;exact wpAny_eqBool_int h
   ·rw[Mr]at h;exact SeqAt.EqAt.int_str i t y u _ _ _ _ h
  ·rcases cB d with⟨j,u,rfl,rfl⟩|⟨y,u,rfl,rfl⟩
   ·rw[Mq]at h;exact SeqAt.EqAt.str_int x t j u _ _ _ _ h
   ·rw[Mo]at h;exact Qx h
 «strs»:=λk x t v h=>by
  rcases cB h with⟨i,u,rfl,e⟩|⟨y,u,rfl,e⟩
  ·exact nomatch e
  ·injection e with c _
   subst c
   cases v<;>rfl
def oI(prog:RH)(w:World)(k:bL)(v:Value):(aK prog w).is k v=nU k v:=rfl
def AK(prog:RH)(w:World)(i:Int)(t:Tok):(aK prog w).is (.inl i) (.int i t)=true:=xD i t
def sL(prog:RH)(w:World)(x:Str)(t:Tok):(aK prog w).is (.inr x) (.str x t)=true:=xC x t
end L2
namespace L2
open PySem PySem.Spec PyProof.Rows
inductive V where|non|bl(b:Bool)|int(i:Int)|str(x:Str)|byt(b:Array UInt8)|flt(b:UInt64)|ref(a:Addr)|ty(n:String)deriving DecidableEq
def aV:V->Value->Prop|.non,u=>u=Value.none|.bl b,u=>u=Value.bool b|.int i,u=>∃t,u=Value.int i t|.str x,u=>∃t,u=Value.str x t|.byt b,u=>∃t,u=Value.bytes b t|.flt b,u=>∃t,u=Value.float b t|.ref a,u=>u=Value.ref a|.ty n,u=>u=Value.type n
abbrev aY:List V->List Value->Prop:=Paired aV
theorem aY.length(r:aY a b):a.length=b.length:=Paired.length r
theorem aY.get:∀{a:List V}{b:RG}{i:Nat}{x:V},aY a b->a[i]?=some x->∃u,b[i]?=some u/\aV x u|_,_,_,_,.nil,e=>by simp at e|_,_,0,_,.cons r _,e=>by simp at e;subst e;exact⟨_,rfl,r⟩|_,_,i+1,x,.cons _ t,e=>by obtain⟨u,h1,h2⟩:=aY.get (i:=i) (x:=x) t (by simpa using e);exact⟨u,by simpa using h1,h2⟩
theorem aY.set(r:aV x u):∀{a:List V}{b:RG}(i:Nat),aY a b->aY (a.set i x) (b.set i u)|_,_,_,.nil=>.nil|_,_,0,.cons _ t=>.cons r t|_,_,i+1,.cons q t=>.cons q (aY.set r i t)
theorem aY.append:∀{a b:List V}{c d:RG},aY a c->aY b d->aY (a++b) (c++d)|_,_,_,_,.nil,s=>s|_,_,_,_,.cons r t,s=>.cons r (aY.append t s)
theorem aY.take:∀{a:List V}{b:RG}(n:Nat),aY a b->aY (a.take n) (b.take n)|_,_,0,_=>.nil|_,_,_+1,.nil=>.nil|_,_,n+1,.cons r t=>.cons r (aY.take n t)
theorem aY.drop:∀{a:List V}{b:RG}(n:Nat),aY a b->aY (a.drop n) (b.drop n)|_,_,0,r=>r|_,_,_+1,.nil=>.nil|_,_,n+1,.cons _ t=>aY.drop n t
def lc:Option V->Option Value->Prop|some v,some u=>aV v u|none,none=>True|_,_=>False
def KV{a:Type}:List (a×V)->List (a×Value)->Prop:=Paired λ(p:a×V)(q:a×Value)=>p.1=q.1/\aV p.2 q.2
def kV:bL->V|.inl i=>.int i|.inr x=>.str x
inductive HO where|lst(xs:List V)|tup(xs:List V)|dK(kvs:List (bL×V))|dT(kvs:List (List bL×V))|set(S:Int->Bool)(n:Nat)|ins(C dx:Addr)(fs:List (Str×V))|own(x:Addr)|xd(fs:List (Str×V))|met(f x:Addr)|rng(lo hi:Int)|frz(o:Obj)(u:HO)|tbl(ps:RK)|ext(φ:Heap->Prop)
abbrev Hp:=Addr->Option HO
def az(H:Hp)(a:Addr)(o:HO):Hp:=λb=>if b=a then some o else H b
def O:az H a o a=some o:=by unfold az;rw[i_ rfl]
def am(h:b≠a):az H a o b=H b:=by unfold az;rw[ir h]
def fZ:az (az H a o) a u=az H a u:=by funext b;unfold az;split<;>rfl
def N7{H:Hp}{a b:Addr}{o u:HO}(h:H a=some o)(h':H b=some u)(d:o≠u):a≠b:=by intro e;subst e;rw[h]at h';exact d (ji h')
def aD{H:Hp}{a b:Addr}{o:HO}(h:H a=some o)(h':H b=none):a≠b:=by intro e;subst e;rw[h]at h';cases h'
section
variable(P:RH)(w:World)
def c5(H:Hp)(h:Heap)(a:Addr):HO->Prop|.lst d=>d.length<=sizeLine/\∃(b:RG)(n:Nat),aY d b/\h.get? a=some {cls:=.type "list",data:=.seq b.toArray n}|.tup d=>d.length<=sizeLine/\∃b:List Value,aY d b/\IsTup h a b.toArray|.dK c=>c.length<=sizeLine/\(a==sysModules)=false/\∃g,KV c g/\h.DictOf (aK P w) a g|.dT c=>c.length<=sizeLine/\(a==sysModules)=false/\∃d:List (List bL×Addr×Value),Paired (λ(p:List bL×V)(q:List bL×Addr×Value)=>p.1=q.1/\H q.2.1=some (.tup (p.1.map kV))/\aV p.2 q.2.2) c d/\∃o i j,h.get? a=some o/\o.ExactDict/\o.data=.dict i j/\i.toList=d.map (entryOfKey (tupleKind (aK P w)))/\(d.map (·.1)).Nodup|.set S n=>h.SetOf (intKind P w) a S n|.ins C dx fs=>H dx=some (.own a)/\fs.length<=1000/\dx≠a/\h.get? a=some (PySem.W.instObj C dx)/\∃e,h.Ns1 dx e/\(∀f,lc (fs.lookup f) (e f))/\PySem.Within e (fs.map (·.1))|.own _=>∃o,h.get? a=some o|.xd fs=>∃e,h.Ns1 a e/\∀f,lc (fs.lookup f) (e f)|.rng lo hi=>∃t u v,h.get? a=some {cls:=.type "range",data:=.fields #[.int lo t,.int hi u,.int 1 v]}|.frz o u=>h.get? a=some o/\c5 H h a u|.tbl k=>h.get? a=some {cls:=.none,data:=.fields k}|.met f x=>h.get? a=some (PySem.W.methodObj (.ref f) (.ref x))|.ext φ=>φ h/\(∃o,h.get? a=some o)/\∀h1 h2:Heap,φ h1->(∀o,h1.get? a=some o->h2.get? a=some o)->φ h2
def me(H:Hp)(h:Heap):Prop:=∀a o,H a=some o->c5 P w H h a o
end
section
variable{P:RH}{w:World}{H g:Hp}{h h':Heap}{a:Addr}{o:HO}
theorem c5.lt(x:c5 P w H h a o):a<h.objs.size:=by cases o with|lst c=>obtain⟨_,_,_,_,e⟩:=x;exact iq e|tup c=>obtain⟨_,_,_,p⟩:=x;exact p.lt|dK b=>obtain⟨_,_,_,_,o,_,_,e,_⟩:=x;exact iq e|dT b=>obtain⟨_,_,_,_,o,_,_,e,_⟩:=x;exact iq e|set S n=>obtain⟨o,_,_,_,e,_⟩:=x;exact iq e|ins C dx fs=>obtain⟨_,_,_,e,_⟩:=x;exact iq e|own y=>obtain⟨_,e⟩:=x;exact iq e|xd fs=>obtain⟨_,⟨_,_,_,e,_⟩,_⟩:=x;exact iq e|rng lo hi=>obtain⟨_,_,_,e⟩:=x;exact iq e|frz ob u=>obtain⟨e,_⟩:=x;exact iq e|tbl d=>exact iq (show h.get? a=some _ from x)|met f y=>exact iq (show h.get? a=some _ from x)|ext φ=>obtain⟨_,⟨_,e⟩,_⟩:=x;exact iq e
theorem Paired.mapP:∀{c:List e}{d:List i},Paired F c d->(∀a b,F a b->G a b)->Paired G c d|_,_,.nil,_=>.nil|_,_,.cons r t,f=>.cons (f _ _ r) (Paired.mapP t f)
def c5.stay(x:c5 P w H h a o)(k:∀b u,(b=a\/H b=some (.own a))->h.get? b=some u->h'.get? b=some u)(E:∀b,H b=some (.own a)->g b=some (.own a))(F:∀b s,H b=some (.tup s)->g b=some (.tup s)):c5 P w g h' a o:=by induction o with|lst s=>obtain⟨z,l,n,r,e⟩:=x;exact⟨z,l,n,r,k _ _ (.inl rfl) e⟩|tup s=>obtain⟨z,l,r,ob,e,c⟩:=x;exact⟨z,l,r,ob,k _ _ (.inl rfl) e,c⟩|dK m=>obtain⟨z,y,G,r,ob,i,j,e,c⟩:=x;exact⟨z,y,G,r,ob,i,j,k _ _ (.inl rfl) e,c⟩|dT m=>obtain⟨z,y,s,r,ob,i,j,e,c⟩:=x;exact⟨z,y,s,Paired.mapP r λp q z=>⟨z.1,F _ _ z.2.1,z.2.2⟩,ob,i,j,k _ _ (.inl rfl) e,c⟩|set S n=>obtain⟨ob,i,j,t,e,c⟩:=x;exact⟨ob,i,j,t,k _ _ (.inl rfl) e,c⟩|ins C dx fs=>obtain⟨d,z,ne,e,A,⟨B,i,j,I,c⟩,r⟩:=x;exact⟨E _ d,z,ne,k _ _ (.inl rfl) e,A,⟨B,i,j,k _ _ (.inr d) I,c⟩,r⟩|own y=>obtain⟨ob,e⟩:=x;exact⟨ob,k _ _ (.inl rfl) e⟩|xd fs=>obtain⟨A,⟨B,i,j,e,c⟩,r⟩:=x;exact⟨A,⟨B,i,j,k _ _ (.inl rfl) e,c⟩,r⟩|rng lo hi=>obtain⟨t,u,v,e⟩:=x;exact⟨t,u,v,k _ _ (.inl rfl) e⟩|frz ob u J=>obtain⟨e,q⟩:=x;exact⟨k _ _ (.inl rfl) e,J q⟩|tbl D=>have e:h.get? a=some {cls:=.none,data:=.fields D}:=x;show h'.get? a=some {cls:=.none,data:=.fields D};exact k a _ (.inl rfl) e|met f y=>have e:h.get? a=some (PySem.W.methodObj (.ref f) (.ref y)):=x;show h'.get? a=some (PySem.W.methodObj (.ref f) (.ref y));exact k a _ (.inl rfl) e|ext φ=>obtain⟨p,⟨o,e⟩,st⟩:=x;exact⟨st _ _ p λo q=>k _ _ (.inl rfl) q,⟨o,k _ _ (.inl rfl) e⟩,st⟩
theorem me.lt(x:me P w H h)(e:H a=some o):a<h.objs.size:=(x a o e).lt
def me.fresh(x:me P w H h)(e:h.objs.size<=a):H a=none:=by cases q:H a with|none=>rfl|some u=>exact absurd (n0 (x.lt q) e) (rm _)
def me.kept(x:me P w H h)(k:∀b u,h.get? b=some u->h'.get? b=some u):me P w H h':=λa o e=>(x a o e).stay (λb u _ q=>k b u q) (λ_ q=>q) λ_ _ q=>q
def me.laid(x:me P w H h)(k:∀b u,h.get? b=some u->h'.get? b=some u)(f:h.objs.size<=a)(new:c5 P w (az H a o) h' a o):me P w (az H a o) h':=λb u e=>by
 have hn:=x.fresh f
 by_cases d:b=a
 ·subst d;rw[O]at e;cases e;exact new
 ·rw[am d]at e;exact(x b u e).stay (λc v _ q=>k c v q) (λc q=>by rw[am (aD q hn)];exact q) λc i q=>by rw[am (aD q hn)];exact q
end
def Rd(H:Hp)(a:Addr)(u:HO):Prop:=H a=some u\/∃o,H a=some (.frz o u)
def Rd.ok(r:Rd H a u)(x:me P w H h):c5 P w H h a u:=by
 rcases r with r|⟨o,r⟩
 ·exact x a u r
 ·obtain⟨_,q⟩:=x a _ r;exact q
def OE:Option HO->Prop|some (.lst _)=>True|some (.dK _)=>True|some (.dT _)=>True|some (.set _ _)=>True|some (.ins _ _ _)=>True|some (.ext _)=>True|_=>False
section
variable{P:RH}{w:World}{H:Hp}{h h':Heap}{x e:Addr}{a:HO}
def me.write(ok:me P w H h)(g:OE (H x))(n:e=x\/H e=some (.own x))(k:∀b u,b≠e->h.get? b=some u->h'.get? b=some u)(l:∃u,h'.get? e=some u)(new:c5 P w (az H x a) h' x a):me P w (az H x a) h':=λb u q=>by
 have f:∀c y,H c=some (.own y)->c≠x:=λc y r z=>by subst z;rw[r]at g;exact g
 have ntup:∀c i,H c=some (.tup i)->c≠x:=λc i r z=>by subst z;rw[r]at g;exact g
 by_cases j:b=x
 ·subst j;rw[O]at q;cases q;exact new
 ·rw[am j]at q
  by_cases d:b=e
  ·have m:H b=some (.own x):=by
    rcases n with z|z
    ·exact absurd (d.trans z) j
    ·rw[d];exact z
   rw[q]at m;cases m;obtain⟨v,o⟩:=l;exact⟨v,by rw[d];exact o⟩
  ·refine(ok b u q).stay (λc v hc r=>k c v ?_ r) (λc r=>by rw[am (f c b r)];exact r) λc i r=>by rw[am (ntup c i r)];exact r
   rcases hc with rfl|hc
   ·exact d
   ·rintro rfl;rcases n with z|z
    ·exact f c b hc z
    ·rw[hc]at z;cases z;exact j rfl
end
structure Un(fs ex:RM)(H H':Hp)(h h':Heap):Prop where
 keep:∀b o,h.get? b=some o->H b=none->b∉fs->b∉ex->h'.get? b=some o
 slot:∀b o,h.get? b=some o->H b=none->b∈fs->b∉ex->∃sl,h'.get? b=some {o with slots:=sl}free:∀b o,h.get? b=some o->H b=none->b∉ex->H' b=none
 there:∀b o,h.get? b=some o->b∉ex->∃o',h'.get? b=some o'
 tups:∀b xs,H b=some (.tup xs)->H' b=some (.tup xs)frzs:∀b o u,H b=some (.frz o u)->H' b=some (.frz o u)tbls:∀b ps,H b=some (.tbl ps)->∃more,H' b=some (.tbl (ps++more))
section
variable{fs c ex d:RM}{H f g:Hp}{h h1 h2 h':Heap}{a x e:Addr}{o:HO}
def Un.any(u:Un fs ex H f h h1){b:Addr}{ob:Obj}(q:h.get? b=some ob)(n:H b=none)(i:b∉ex):∃sl,h1.get? b=some {ob with slots:=sl}:=by
 by_cases j:b∈fs
 ·exact u.slot b ob q n j i
 ·exact⟨ob.slots,u.keep b ob q n j i⟩
def Un.kept(k:∀b u,h.get? b=some u->h'.get? b=some u):Un fs ex H H h h':=⟨λb ob q _ _ _=>k b ob q,λb ob q _ _ _=>⟨ob.slots,k b ob q⟩,λ_ _ _ n _=>n,λb ob q _=>⟨ob,k b ob q⟩,λ_ _ q=>q,λ_ _ _ q=>q,λ_ i q=>⟨#[],by rw[q];simp⟩⟩
def Un.refl:Un fs ex H H h h:=Un.kept λ_ _ q=>q
def Un.laid(k:∀b u,h.get? b=some u->h'.get? b=some u)(i:h.objs.size<=a)(hn:H a=none):Un fs ex H (az H a o) h h' where
 keep:=λb u q _ _ _=>k b u q
 slot:=λb u q _ _ _=>⟨u.slots,k b u q⟩
 free:=λb u q n _=>by rw[am (k4 (n0 (iq q) i))];exact n
 there:=λb u q _=>⟨u,k b u q⟩
 tups:=λb j q=>by rw[am (aD q hn)];exact q
 frzs:=λb u j q=>by rw[am (aD q hn)];exact q
 tbls:=λb l q=>⟨#[],by rw[am (aD q hn),q];simp⟩
def Un.write(j:OE (H x))(s:e=x\/H e=some (.own x))(k:∀b u,b≠e->h.get? b=some u->h'.get? b=some u)(l:∃u,h'.get? e=some u):Un fs ex H (az H x o) h h':=by
 have m:∀b,H b=none->b≠x:=λb n z=>by subst z;rw[n]at j;exact j
 have p:∀b,H b=none->b≠e:=λb n z=>by
  subst z;rcases s with r|r
  ·exact m b n r
  ·rw[n]at r;cases r
 have hm:∀b u,H b=some u->¬OE (some u)->b≠x:=λb u q nm z=>by subst z;rw[q]at j;exact nm j
 refine⟨λb u q n _ _=>k b u (p b n) q,λb u q n _ _=>⟨u.slots,k b u (p b n) q⟩,λb u q n _=>by rw[am (m b n)];exact n,λb u q _=>?_,λb t q=>by rw[am (hm b _ q λz=>z)];exact q,λb u t q=>by rw[am (hm b _ q λz=>z)];exact q,λb v q=>⟨#[],by rw[am (hm b _ q λz=>z),q];simp⟩⟩
 by_cases i:b=e
 ·subst i;exact l
 ·exact⟨u,k b u i q⟩
end
def OR(h:Heap)(H:Hp):List Addr:=(List.range h.objs.size).filter λa=>(H a).isSome
def zb(h:Heap)(H:Hp):Heap:=PySem.W.hideAll h (OR h H)
def EI(h:Heap)(H:Hp):(zb h H).objs.size=h.objs.size:=PySem.W.hideAll_size _ _
def Hd(e:h.get? b=some o)(n:H b=none):(zb h H).get? b=some o:=PySem.W.hideAll_get _ e λhm=>by have q:(H b).isSome=true:=(vr.mp hm).2;rw[n]at q;simp at q
def JB(e:(zb h H).get? b=some o):h.get? b=some o/\H b=none:=by have a:h.get? b=some o:=PySem.W.of_hideAll (OR h H) e;refine⟨a,?_⟩;cases q:H b with|none=>rfl|some x=>have hm:b∈OR h H:=vr.mpr ⟨to.mpr (iq a),by simp[q]⟩;have z:(zb h H).get? b=none:=PySem.W.hideAll_none (OR h H) hm;rw[z]at e;cases e
def Kt(g h:Heap)(L:Addr):List (Addr×Obj):=(List.range h.objs.size).filterMap λa=>if a=L\/(g.get? a).isSome=true then none else(h.get? a).map λo=>(a,o)
def mz(g h:Heap)(L d:Addr):List (Addr×Obj):=(Kt g h L).filter λp=>decide (p.1≠d)
end L2
namespace L2
open PySem PySem.Spec PyProof.Rows
structure OF(K:RC)(mg:RF)(base:Heap):Prop where
 kin:K.In base
 glob:base.Ns mainGlobals mg
 blt:∃mb,base.Ns builtinsNs mb/\∀x:Str,x≠"__name__"->mb x=bootBuiltins x
 nolimit:base.NoLimit
structure Cx where
 prog:Program
 w:World
 K:RC
 mg:Str->Option Value
 base:Heap
 A:Around
 N:List Str
 s₀:Shared
 H₀:Hp
 env:Env
 outer:List Env
 stack:List Env
 ex:List Addr
 fn:Str->Bool
 calm:Bool
 pn:List (Addr×Obj)xe:Value->Shared->Prop
def kE(l:List Env):List Addr:=l.filterMap (·.frame)
abbrev Cx.fs(X:Cx):List Addr:=kE X.outer
def OV(a:Scope)(x:Str):Prop:=a.names.lookup x=some .local\/a.names.lookup x=some .cell\/a.names.lookup x=some .free
def MZ(a:Scope)(x:Str):Prop:=a.names.lookup x=some .local\/a.names.lookup x=some .cell
def Ps(env:Env)(h:Heap)(m:RF)(x:Str)(u:Value):Prop:=(env.kindOf x=some .local/\m x=some u)\/((env.kindOf x=some .cell\/env.kindOf x=some .free)/\∃c,env.cells.lookup x=some c/\h.IsCell c (some u))
structure Cx.Ok(X:Cx):Prop where
 mod:OF X.K X.mg X.base
 kind:X.env.scope.kind=.function
 glob:X.env.globals=mainGlobals
 blt:X.env.builtins=builtinsNs
 above:X.s₀.heap.objs.size<=X.env.locals
 inj:∀x y c,X.env.cells.lookup x=some c->X.env.cells.lookup y=some c->x=y
 has:∀x,(X.env.kindOf x=some .cell\/X.env.kindOf x=some .free)->∃c,X.env.cells.lookup x=some c
 cab:∀x c,X.fn x=true->X.env.cells.lookup x=some c->X.s₀.heap.objs.size<=c
 hd:X.calm=true->X.A.handled=none
 frames:X.A.frames=some X.stack
 stk:X.stack=X.outer\/(X.stack=X.env::X.outer/\X.env.frame=some X.env.locals)exf:∀b∈X.ex,b≠X.env.locals/\∀x c,X.env.cells.lookup x=some c->c≠b
 bs:∀b o,X.base.get? b=some o->X.s₀.heap.get? b=some o/\X.H₀ b=none
 bsz:X.base.objs.size<=X.s₀.heap.objs.size
 noex:∀b o,X.base.get? b=some o->b∉X.ex
 exfs:∀b∈X.ex,b∉X.fs
 funs:X.s₀.heap.FunFrames X.base X.outer
 frf:∀b∈X.fs,X.H₀ b=none
structure aL(X:Cx)(pins:RE)(σ:List (Option V))(H:Hp)(s:Shared):Prop where
 ok:X.Ok
 os:s.os=X.s₀.os
 bare:AllBare s.gens
 base:Un X.fs X.ex X.H₀ H X.s₀.heap s.heap
 loc:∃m,s.heap.Ns X.env.locals m/\∀(i:Nat)(x:Str)(v:V),X.N[i]?=some x->σ[i]?=some (some v)->OV X.env.scope x->∃u,aV v u/\Ps X.env s.heap m x u
 cell:∀x c,X.env.cells.lookup x=some c->∃v,s.heap.IsCell c v
 free:H X.env.locals=none
 freeC:∀x c,X.env.cells.lookup x=some c->H c=none
 pin:∀p∈X.pn++pins,s.heap.get? p.1=some p.2/\H p.1=none/\p.1≠X.env.locals/\p.1∉X.fs/\∀v,p.2.data≠.cell v
 hok:me X.prog X.w H s.heap
 len:σ.length=X.N.length
section
variable{X:Cx}{f:RE}{g:List (Option V)}{H B:Hp}{s:Shared}{h':Heap}
def Cx.Ok.nofr(ok:X.Ok)(e:X.base.get? b=some o):b∉X.fs:=λa=>by have:=(ok.funs.mem a).1;rw[e]at this;cases this
theorem aL.bs(I:aL X f g H s):∀b o,X.base.get? b=some o->s.heap.get? b=some o/\H b=none:=λb o e=>⟨I.base.keep b o (I.ok.bs b o e).1 (I.ok.bs b o e).2 (I.ok.nofr e) (I.ok.noex b o e),I.base.free b o (I.ok.bs b o e).1 (I.ok.bs b o e).2 (I.ok.noex b o e)⟩
def aL.bk(I:aL X f g H s):∀b o,X.base.get? b=some o->s.heap.get? b=some o:=λb o e=>(I.bs b o e).1
theorem aL.mod(I:aL X f g H s):OF X.K X.mg X.base:=I.ok.mod
def aL.kIn(I:aL X f g H s):X.K.In s.heap:=I.ok.mod.kin.keeps I.bk
def aL.fr(I:aL X f g H s):∃m,Fr X.base X.env.locals s.heap m:=let⟨m,hn,_⟩:=I.loc
 ⟨m,hn,I.bk,mu I.ok.bsz I.ok.above⟩
theorem aL.lt(I:aL X f g H s):X.env.locals<s.heap.objs.size:=let⟨_,hn,_⟩:=I.loc;hn.lt
def aL.sz(I:aL X f g H s):X.s₀.heap.objs.size<=s.heap.objs.size:=mu I.ok.above (t2 I.lt)
def aL.nofs(I:aL X f g H s)(h:s.heap.objs.size<=a):a∉X.fs:=λb=>by obtain⟨_,o,c,_⟩:=I.ok.funs.mem b;exact absurd (n0 (iq c) (mu I.sz h)) (rm _)
def aL.cne(I:aL X f g H s):∀x c,X.env.cells.lookup x=some c->c≠X.env.locals:=λx c e z=>by obtain⟨v,o,d,hd⟩:=I.cell x c e;obtain⟨m,⟨h,i,j,a,b,_⟩,_⟩:=I.loc;rw[z,a]at d;cases d;rw[b]at hd;cases hd
theorem aL.funs(I:aL X f g H s):s.heap.FunFrames X.base X.outer:=by
 have all:∀(l:List Env),(∀b∈kE l,b∈X.fs)->X.s₀.heap.FunFrames X.base l->s.heap.FunFrames X.base l:=by
  intro l
  induction l with|nil=>intro _ _;trivial|cons env r i=>intro h j;obtain⟨k,⟨L,o,a,hn,m,hd⟩,n⟩:=j;have c:L∈X.fs:=h L (by unfold kE;rw[z8,a];exact l_);obtain⟨sl,e⟩:=I.base.slot L o m (I.ok.frf L c) c λz=>I.ok.exfs L z c;exact⟨k,⟨L,_,a,hn,e,hd⟩,i (λb d=>h b (by unfold kE;rw[z8,a];exact kw _ d)) n⟩
 exact all X.outer (λ_ d=>d) I.ok.funs
theorem aL.stack(I:aL X f g H s):s.heap.FunFrames X.base X.stack:=by
 rcases I.ok.stk with e|⟨e,a⟩
 ·rw[e];exact I.funs
 ·rw[e];obtain⟨m,hn,_⟩:=I.loc;refine .cons (by rw[I.ok.kind];decide) a hn ?_ I.funs;exact Heap.get?_none_of_le (mu I.ok.bsz I.ok.above)
def aL.stkSub(I:aL X f g H s):∀b∈kE X.stack,b∈X.env.locals::X.fs:=λb a=>by
 rcases I.ok.stk with e|⟨e,c⟩
 ·rw[e]at a;exact kw _ a
 ·rw[e]at a;unfold kE at a;rw[z8,c]at a;exact a
def aL.stkFree(I:aL X f g H s):∀b∈kE X.stack,H b=none:=λb a=>by
 rcases pv.mp (I.stkSub b a)with e|a
 ·rw[e];exact I.free
 ·obtain⟨_,o,c,_⟩:=I.ok.funs.mem a;exact I.base.free b o c (I.ok.frf b a) λz=>I.ok.exfs b z a
def aL.step{g':Array GenState}{P:Nat}{d':Drawn}{ch:RM}(I:aL X f g H s)(h:∀b∈ch,(b∈X.ex\/X.s₀.heap.objs.size<=b)/\b≠X.env.locals/\(∀x c,X.env.cells.lookup x=some c->c≠b)/\∀p∈X.pn++f,p.1≠b)(keep:∀b o,b≠X.env.locals->b∉X.fs->b∉ch->s.heap.get? b=some o->H b=none->h'.get? b=some o)(slot:∀b o,b≠X.env.locals->b∈X.fs->b∉ch->s.heap.get? b=some o->H b=none->∃sl,h'.get? b=some {o with slots:=sl})(free:∀b o,b∉ch->s.heap.get? b=some o->H b=none->B b=none)(there:∀b o,b∉ch->s.heap.get? b=some o->∃F,h'.get? b=some F)(tups:∀b C,H b=some (.tup C)->B b=some (.tup C))(frzs:∀b o u,H b=some (.frz o u)->B b=some (.frz o u))(tbls:∀b L,H b=some (.tbl L)->∃G,B b=some (.tbl (L++G)))(ns:∀m,s.heap.Ns X.env.locals m->h'.Ns X.env.locals m)(hok:me X.prog X.w B h')(hg:AllBare g'):aL X f g B {s with heap:=h',gens:=g',drawn:=d',toks:=P}:=by
 have J:∀b o,X.s₀.heap.get? b=some o->b≠X.env.locals:=λb o e=>k4 (n0 (iq e) I.ok.above);have y:∀b o,X.s₀.heap.get? b=some o->b∉X.ex->b∉ch:=λb o e a D=>by
  rcases(h b D).1 with z|z
  ·exact a z
  ·exact absurd (n0 (iq e) z) (rm _)
 have j:∀x c,X.env.cells.lookup x=some c->∀v,s.heap.IsCell c v->h'.IsCell c v:=λx c e v⟨o,E,hd⟩=>by
  have t:c∉ch:=λz=>(h c z).2.2.1 x c e rfl
  by_cases hc:c∈X.fs
  ·obtain⟨sl,q⟩:=slot c o (I.cne x c e) hc t E (I.freeC x c e);exact⟨_,q,hd⟩
  ·exact⟨o,keep c o (I.cne x c e) hc t E (I.freeC x c e),hd⟩
 refine⟨I.ok,I.os,hg,⟨λb o e n D a=>?_,λb o e n D a=>?_,λb o e n a=>?_,λb o e a=>?_,λb C e=>tups b C (I.base.tups b C e),λb o C e=>frzs b o C (I.base.frzs b o C e),λb L e=>?_⟩,?_,λx c e=>?_,?_,λx c e=>?_,λp N=>?_,hok,I.len⟩
 ·exact keep b o (J b o e) D (y b o e a) (I.base.keep b o e n D a) (I.base.free b o e n a)
 ·obtain⟨sl,A⟩:=I.base.slot b o e n D a;obtain⟨M,K⟩:=slot b _ (J b o e) D (y b o e a) A (I.base.free b o e n a);exact⟨M,K⟩
 ·obtain⟨F,A⟩:=I.base.there b o e a;exact free b F (y b o e a) A (I.base.free b o e n a)
 ·obtain⟨F,A⟩:=I.base.there b o e a;exact there b F (y b o e a) A
 ·obtain⟨O,A⟩:=I.base.tbls b L e;obtain⟨Q,K⟩:=tbls b _ A;exact⟨O++Q,by rw[K,Array.append_assoc]⟩
 ·obtain⟨m,hn,R⟩:=I.loc;refine⟨m,ns m hn,λi x v A K S=>?_⟩;obtain⟨u,r,l⟩:=R i x v A K S;refine⟨u,r,?_⟩;rcases l with l|⟨k,c,e,z⟩
  ·exact .inl l
  ·exact .inr ⟨k,c,e,j x c e _ z⟩
 ·obtain⟨v,z⟩:=I.cell x c e;exact⟨v,j x c e v z⟩
 ·obtain⟨m,⟨o,_,_,E,_⟩,_⟩:=I.loc;exact free _ o (λz=>(h _ z).2.1 rfl) E I.free
 ·obtain⟨v,o,E,hd⟩:=I.cell x c e;exact free c o (λz=>(h c z).2.2.1 x c e rfl) E (I.freeC x c e)
 ·obtain⟨e,n,ne,nf,d⟩:=I.pin p N;have t:p.1∉ch:=λz=>(h p.1 z).2.2.2 p N rfl;exact⟨keep p.1 p.2 ne nf t e n,free p.1 p.2 t e n,ne,nf,d⟩
def aL.un{t':Nat}(I:aL X f g H s)(u:Un X.fs [] H B s.heap h')(hok:me X.prog X.w B h'):aL X f g B {s with heap:=h',toks:=t'}:=by obtain⟨m,⟨o,l,p,i,r⟩,_⟩:=id I.loc;obtain⟨sl,j⟩:=u.any i I.free (by simp);exact I.step (g':=s.gens) (d':=s.drawn) (ch:=[]) (λ_ z=>nomatch z) (λb o _ c _ e n=>u.keep b o e n c (by simp)) (λb o _ c _ e n=>u.slot b o e n c (by simp)) (λb o _ e n=>u.free b o e n (by simp)) (λb o _ e=>u.there b o e (by simp)) u.tups u.frzs u.tbls (λx hm=>by obtain⟨y,d,h,a,k⟩:=hm;rw[i]at a;cases a;exact⟨_,d,h,j,k⟩) hok I.bare
def aL.call{g':Array GenState}{t':Nat}{d':Drawn}{ch:RM}(I:aL X f g H s)(u:Un (kE X.stack) ch H B s.heap h')(hok:me X.prog X.w B h')(hg:AllBare g')(a:∀b∈ch,(b∈X.ex\/X.s₀.heap.objs.size<=b)/\b≠X.env.locals/\(∀x c,X.env.cells.lookup x=some c->c≠b)/\∀p∈X.pn++f,p.1≠b):aL X f g B {s with heap:=h',gens:=g',drawn:=d',toks:=t'}:=by obtain⟨m,⟨o,t,v,k,r⟩,_⟩:=id I.loc;obtain⟨sl,h⟩:=u.any k I.free λz=>(a _ z).2.1 rfl;exact I.step (ch:=ch) a (λb o h l hc e n=>u.keep b o e n (λz=>(pv.mp (I.stkSub b z)).elim h l) hc) (λb o _ _ hc e n=>u.any e n hc) (λb o hc e n=>u.free b o e n hc) (λb o hc e=>u.there b o e hc) u.tups u.frzs u.tbls (λy hm=>by obtain⟨A,i,j,d,q⟩:=hm;rw[k]at d;cases d;exact⟨_,i,j,h,q⟩) hok hg
def aL.turned{t':Nat}{it:Addr}(I:aL X f g H s)(k:∀b o,b≠it->s.heap.get? b=some o->h'.get? b=some o)(hn:H it=none)(d:it≠X.env.locals)(h1:it∈X.ex\/X.s₀.heap.objs.size<=it)(h2:∀x c,X.env.cells.lookup x=some c->c≠it)(h3:∀p∈X.pn++f,p.1≠it):aL X f g H {s with heap:=h',toks:=t'}:=by
 have a:∀b u,H b=some u->b≠it:=λb u e z=>by rw[z,hn]at e;cases e
 refine I.step (g':=s.gens) (d':=s.drawn) (ch:=[it]) (λb h=>?_) (λb o _ _ hc e _=>k b o (λz=>hc (by simp[z])) e) (λb o _ _ hc e _=>⟨o.slots,k b o (λz=>hc (by simp[z])) e⟩) (λ_ _ _ _ n=>n) (λb o hc e=>⟨o,k b o (λz=>hc (by simp[z])) e⟩) (λ_ _ e=>e) (λ_ _ _ e=>e) (λb A e=>⟨#[],by rw[e];simp⟩) (λm hm=>?_) (λb u e=>?_) I.bare
 ·have e:b=it:=by simpa using h
  subst e;exact⟨h1,d,h2,h3⟩
 ·obtain⟨o,i,j,l,r⟩:=hm;exact⟨o,i,j,k _ o (o_ d) l,r⟩
 ·refine(I.hok b u e).stay (λc v hc q=>k c v ?_ q) (λ_ q=>q) λ_ _ q=>q;rcases hc with z|z
  ·rw[z];exact a b u e
  ·exact a c _ z
def aL.tok(I:aL X f g H s)(t:Nat):aL X f g H {s with toks:=t}:=I.un (h':=s.heap) (t':=t) Un.refl I.hok
theorem aL.kept(I:aL X f g H s)(k:∀b u,s.heap.get? b=some u->h'.get? b=some u):aL X f g H {s with heap:=h',toks:=t'}:=I.un (Un.kept k) (I.hok.kept k)
theorem aL.laid(I:aL X f g H s)(k:∀b u,s.heap.get? b=some u->h'.get? b=some u)(c:s.heap.objs.size<=a)(new:c5 X.prog X.w (az H a o) h' a o):aL X f g (az H a o) {s with heap:=h',toks:=t'}:=I.un (Un.laid k c (I.hok.fresh c)) (I.hok.laid k c new)
theorem aL.write(I:aL X f g H s)(c:OE (H x))(d:e=x\/H e=some (.own x))(k:∀b u,b≠e->s.heap.get? b=some u->h'.get? b=some u)(a:∃u,h'.get? e=some u)(new:c5 X.prog X.w (az H x o) h' x o):aL X f g (az H x o) {s with heap:=h',toks:=t'}:=I.un (Un.write c d k a) (I.hok.write c d k a new)
def aL.weak(I:aL X f g H s)(c:a.length=g.length)(w:∀(i:Nat)v,a[i]?=some (some v)->g[i]?=some (some v)):aL X f a H s:=⟨I.ok,I.os,I.bare,I.base,let⟨m,hn,b⟩:=I.loc;⟨m,hn,λi x v d e h=>b i x v d (w i v e) h⟩,I.cell,I.free,I.freeC,I.pin,I.hok,c.trans I.len⟩
def aL.pins_of(I:aL X f g H s)(h:∀p∈a,s.heap.get? p.1=some p.2/\H p.1=none/\p.1≠X.env.locals/\p.1∉X.fs/\∀v,p.2.data≠.cell v):aL X a g H s:=⟨I.ok,I.os,I.bare,I.base,I.loc,I.cell,I.free,I.freeC,λp b=>(Rz.mp b).elim (λz=>I.pin p (tA _ z)) (h p),I.hok,I.len⟩
def AG{N:RI}(c:N.Nodup){i j:Nat}{x:Str}(a:N[i]?=some x)(b:N[j]?=some x):i=j:=by obtain⟨h1,d⟩:=d_.mp a;obtain⟨h2,e⟩:=d_.mp b;exact(List.getElem_inj c).mp (d.trans e.symm)
def xm{M:Model}{A:Around}{E:RD}{i:Nat}{x:Str}{v:V}{u:Value}{Q:Unit->Shared->Prop}(I:aL X f g H s)(hN:X.N.Nodup)(hi:X.N[i]?=some x)(D:MZ X.env.scope x)(r:aV v u)(h:∀s',aL X f (g.set i (some v)) H s'->(∃a,Heap.SameBut a s.heap s'.heap/\(a=X.env.locals\/X.env.cells.lookup x=some a))->Q () s')(hf:X.fn x=true\/X.env.scope.names.lookup x=some .local:=by first|exact .inl rfl|exact .inr rfl|assumption):wpAny M A (storeName X.env x u) Q E s:=by
 obtain⟨m,hn,hl⟩:=id I.loc;have R:(X.env.scope.kind==.class||(X.env.scope.kind==.module&&X.env.locals !=X.env.globals))=false:=by rw[I.ok.kind];rfl
 have J:i<g.length:=by rw[I.len];exact(d_.mp hi).1
 have cne:=I.cne;have t:∀{a:Addr}{h':Heap},(∃o,s.heap.get? a=some o/\H a=none)->Heap.SameBut a s.heap h'->me X.prog X.w H h':=λ{a h'}ha l b ob e=>by
  obtain⟨_,_,F⟩:=ha;refine(I.hok b ob e).stay (λc Y hc q=>(l.2 c ?_).trans q) (λ_ q=>q) λ_ _ q=>q;rintro rfl;rcases hc with rfl|hc
  ·rw[F]at e;cases e
  ·rw[F]at hc;cases hc
 rcases D with K|K
 ·refine wpAny_storeName_local K hn (λh' aa l=>?_) R;obtain⟨oL,_,_,ad,_⟩:=id hn;refine h _ ⟨I.ok,I.os,I.bare,⟨λb o e n L D=>?_,λb o e n L D=>?_,I.base.free,λb o e D=>?_,I.base.tups,I.base.frzs,I.base.tbls⟩,⟨_,aa,λj y v' C G e3=>?_⟩,λy c e=>?_,I.free,I.freeC,λp hp=>?_,t ⟨oL,ad,I.free⟩ l,by simpa using I.len⟩ ⟨_,l,.inl rfl⟩
  ·exact(l.2 b (k4 (n0 (iq e) I.ok.above))).trans (I.base.keep b o e n L D)
  ·obtain⟨sl,C⟩:=I.base.slot b o e n L D;exact⟨sl,(l.2 b (k4 (n0 (iq e) I.ok.above))).trans C⟩
  ·obtain⟨o',C⟩:=I.base.there b o e D;exact⟨o',(l.2 b (k4 (n0 (iq e) I.ok.above))).trans C⟩
  ·by_cases O:j=i
   ·subst O;rw[hi]at C;cases C;rw[A_ J]at G;cases G;exact⟨u,r,.inl ⟨K,by simp⟩⟩
   ·rw[oD (o_ O)]at G;obtain⟨u',r',q⟩:=hl j y v' C G e3;refine⟨u',r',?_⟩;rcases q with⟨k,e⟩|⟨k,c,e,z⟩
    ·refine .inl ⟨k,?_⟩;have:y≠x:=λe=>O (AG hN C (e▸hi));simp[this,e]
    ·exact .inr ⟨k,c,e,z.sameBut l (cne y c e)⟩
  ·obtain⟨Y,z⟩:=I.cell y c e;exact⟨Y,z.sameBut l (cne y c e)⟩
  ·obtain⟨e,n,ne,nf,d⟩:=I.pin p hp;exact⟨(l.2 p.1 ne).trans e,n,ne,nf,d⟩
 ·have P:X.fn x=true:=by
   rcases hf with z|z
   ·exact z
   ·rw[z]at K;cases K
  obtain⟨c,hc⟩:=I.ok.has x (.inl K);obtain⟨Y,z⟩:=I.cell x c hc;refine wpAny_storeName_cell I.ok.kind K hc z (λh' S l=>?_);obtain⟨oc,T,U⟩:=id z;refine h {s with heap:=h'} ⟨I.ok,I.os,I.bare,⟨λb o e n L D=>?_,λb o e n L D=>?_,I.base.free,λb o e D=>?_,I.base.tups,I.base.frzs,I.base.tbls⟩,⟨m,hn.sameBut l (o_ (cne x c hc)),λj y v' C G e3=>?_⟩,λy Z e=>?_,I.free,I.freeC,λp hp=>?_,t ⟨oc,T,I.freeC x c hc⟩ l,by simpa using I.len⟩ ⟨c,l,.inr hc⟩
  ·exact(l.2 b (k4 (n0 (iq e) (I.ok.cab x c P hc)))).trans (I.base.keep b o e n L D)
  ·obtain⟨sl,C⟩:=I.base.slot b o e n L D;exact⟨sl,(l.2 b (k4 (n0 (iq e) (I.ok.cab x c P hc)))).trans C⟩
  ·obtain⟨o',C⟩:=I.base.there b o e D;exact⟨o',(l.2 b (k4 (n0 (iq e) (I.ok.cab x c P hc)))).trans C⟩
  ·by_cases O:j=i
   ·subst O;rw[hi]at C;cases C;rw[A_ J]at G;cases G;exact⟨u,r,.inr ⟨.inl K,c,hc,S⟩⟩
   ·rw[oD (o_ O)]at G;obtain⟨u',r',q⟩:=hl j y v' C G e3;refine⟨u',r',?_⟩;rcases q with q|⟨k,Z,e,z'⟩
    ·exact .inl q
    ·refine .inr ⟨k,Z,e,z'.sameBut l ?_⟩;rintro rfl;exact O (AG hN C (I.ok.inj _ _ _ e hc▸hi))
  ·by_cases W:Z=c
   ·subst W;exact⟨_,S⟩
   ·obtain⟨w2,z2⟩:=I.cell y Z e;exact⟨w2,z2.sameBut l W⟩
  ·obtain⟨e,n,ne,nf,d⟩:=I.pin p hp;refine⟨(l.2 p.1 ?_).trans e,n,ne,nf,d⟩;intro q;rw[q,T]at e;have q':oc=p.2:=ji e;exact d Y (by rw[<-q'];exact U)
def uq(I:aL X f g H s)(b:X.N.Nodup)(hi:X.N[i]?=some x)(c:MZ X.env.scope x)(r:aV v u)(h:∀a,aL X f (g.set i (some v)) H a->Q () a)(d:X.fn x=true\/X.env.scope.names.lookup x=some .local:=by first|exact .inl rfl|exact .inr rfl|assumption):wpAny M A (storeName X.env x u) Q E s:=xm I b hi c r (λa e _=>h a e) d
def aL.call'(I:aL X f g H s)(j:s'.os=s.os)(u:Un (kE X.stack) ch H B s.heap s'.heap)(hok:me X.prog X.w B s'.heap)(hg:AllBare s'.gens)(a:∀b∈ch,(b∈X.ex\/X.s₀.heap.objs.size<=b)/\b≠X.env.locals/\(∀x c,X.env.cells.lookup x=some c->c≠b)/\∀p∈X.pn++f,p.1≠b):aL X f g B s':=by obtain⟨h',d,h,i,k⟩:=s';have e:k=s.os:=j;subst e;exact I.call (g':=d) (t':=i) (d':=h) u hok hg a
end
abbrev XK:=Value->Option Addr->Hp->Prop
abbrev St:=List (Option V)
abbrev VK:=V->Hp->Prop
abbrev TE:=St->Hp->VK->Prop
abbrev TT:=St->Hp->(Bool->Hp->Prop)->Prop
abbrev TA:=St->Hp->(List V->Hp->Prop)->Prop
structure oW where
 nx:St->Hp->Prop
 rt:VK
 bk:St->Hp->Prop:=λ_ _=>False
 ct:St->Hp->Prop:=λ_ _=>False
abbrev TS:=oW->St->Hp->Prop
def EP(X:Cx)(a:RE)(c:St)(Q:VK)(u:Value)(d:Shared):Prop:=∃v b,aL X a c b d/\aV v u/\Q v b
def TP(X:Cx)(a:RE)(d:St)(Q:Bool->Hp->Prop)(b:Bool)(e:Shared):Prop:=∃c,aL X a d c e/\Q b c
def AP(X:Cx)(a:RE)(d:St)(Q:List V->Hp->Prop)(e:RG)(f:Shared):Prop:=∃b c,aL X a d c f/\aY b e/\Q b c
def SP(X:Cx)(b:RE)(D:oW)(f:Flow)(d:Shared):Prop:=match f with|.next=>∃a c,aL X b a c d/\D.nx a c|.brk=>∃a c,aL X b a c d/\D.bk a c|.cont=>∃a c,aL X b a c d/\D.ct a c|.ret u=>∃v a c,aL X b a c d/\aV v u/\D.rt v c
def PE(X:Cx)(e:Expr)(t:TE):Prop:=∀(a:RE)(s:Shared)(b:St)(H:Hp)(Q:VK),aL X a b H s->t b H Q->wpAny (model X.prog X.w) X.A (eval e X.env) (EP X a b Q) X.xe s
def PT(X:Cx)(e:Expr)(t:TT):Prop:=∀(a:RE)(s:Shared)(b:St)(H:Hp)(Q:Bool->Hp->Prop),aL X a b H s->t b H Q->wpAny (model X.prog X.w) X.A (isTrue e X.env (eval e X.env)) (TP X a b Q) X.xe s
def PW(X:Cx)(e:Expr)(t:TT):Prop:=∀(b:Sem Value)(a:RE)(s:Shared)(c:St)(H:Hp)(Q:Bool->Hp->Prop),aL X a c H s->t c H Q->wpAny (model X.prog X.w) X.A (isTrue e X.env b) (TP X a c Q) X.xe s
def PW.pt(h:PW X e t):PT X e t:=h _
def PA(X:Cx)(d:RJ)(t:TA):Prop:=∀(b:Pos)(a:RE)(s:Shared)(c:St)(H:Hp)(Q:List V->Hp->Prop),aL X a c H s->t c H Q->wpAny (model X.prog X.w) X.A (spliced (backTo b (starEach d X.env))) (AP X a c Q) X.xe s
def PS(X:Cx)(st:Stmt)(t:TS):Prop:=∀(a:RE)(s:Shared)(b:St)(H:Hp)(D:oW),aL X a b H s->t D b H->wpAny (model X.prog X.w) X.A (exec st X.env) (SP X a D) X.xe s
def xc(X:Cx)(st:List Stmt)(t:TS):Prop:=∀(a:RE)(s:Shared)(b:St)(H:Hp)(D:oW),aL X a b H s->t D b H->wpAny (model X.prog X.w) X.A (execs st X.env) (SP X a D) X.xe s
def cy(h:wpAny M A t Q E s)(b:∀a s,Q a s->c a s):wpAny M A t c E s:=wpAny_mono h b λ_ _ x=>x
end L2
namespace L2
open PySem PySem.Spec PyProof.Rows
section
variable{X:Cx}
def Lo(i:Nat):TE:=λa H Q=>∃v,a[i]?=some (some v)/\Q v H
def tC(v:V):TE:=λ_ H Q=>Q v H
def L4(j:X.N[i]?=some x)(n:OV X.env.scope x)(hd:(x==("__debug__":Str))=false:=by decide)(g:(x==("__classdict__":Str))=false:=by decide):PE X (.Name x f) (Lo i):=by
 intro d s k H Q I h;obtain⟨v,e,h⟩:=h;obtain⟨m,hn,o⟩:=I.loc;obtain⟨u,r,l⟩:=o i x v j e n;have fin:EP X d k Q u s:=⟨v,H,I,r,h⟩;rcases l with⟨b,hm⟩|⟨b,c,hc,a⟩
 ·exact wpAny_Name (wpAny_loadName_local I.ok.kind b hn hm fin) hd
 ·rcases b with b|b
  ·exact wpAny_Name (wpAny_loadName_cell I.ok.kind b hc a fin) hd
  ·exact wpAny_Name (wpAny_loadName_free I.ok.kind b hc a fin g) hd
def af{i j f}:PE X (.Constant (.int i) j f) (tC (.int i)):=λ_ _ _ H _ I h=>wpAny_Constant_int ⟨.int i,H,I.tok _,⟨_,rfl⟩,h⟩
def fc{b j f}:PE X (.Constant (.bool b) j f) (tC (.bl b)):=λ_ _ _ H _ I h=>Constant_bool ⟨.bl b,H,I,rfl,h⟩
def lM{j f}:PE X (.Constant .none j f) (tC .non):=λ_ _ _ H _ I h=>Constant_none ⟨.non,H,I,rfl,h⟩
def aB{x j f}:PE X (.Constant (.str x) j f) (tC (.str x)):=λ_ _ _ H _ I h=>Calls.Constant_str ⟨.str x,H,I.tok _,⟨_,rfl⟩,h⟩
def Gl(X:Cx)(x:Str):Prop:=X.env.kindOf x=some .globalImplicit
def m9(I:aL X a b H s)(hg:Gl X x)(hm:X.mg x=some u)(h:Q u s)(hd:(x==("__debug__":Str))=false:=by decide):wpAny (model X.prog X.w) X.A (eval (.Name x f) X.env) Q E s:=Calls.Name_function_global I.ok.kind hg (Calls.loadGlobal_global (by rw[I.ok.glob];exact I.mod.glob.keeps I.bk) hm h) hd
def lO(I:aL X a c H s)(hg:Gl X x)(hm:X.mg x=none)(b:bootBuiltins x=some u)(h:Q u s)(hn:x≠"__name__":=by decide)(hd:(x==("__debug__":Str))=false:=by decide):wpAny (model X.prog X.w) X.A (eval (.Name x f) X.env) Q E s:=by obtain⟨d,h1,h2⟩:=I.mod.blt;exact Calls.Name_function_global I.ok.kind hg (Calls.loadGlobal_builtin (by rw[I.ok.glob];exact I.mod.glob.keeps I.bk) hm (by rw[I.ok.blt];exact h1.keeps I.bk) ((h2 x hn).trans b) h) hd
def Dc(hg:Gl X x)(hm:X.mg x=some u)(r:aV v u)(hd:(x==("__debug__":Str))=false:=by decide):PE X (.Name x f) (tC v):=λ_ _ _ H _ I h=>m9 I hg hm ⟨v,H,I,r,h⟩ hd
def Jv{x:Str}{v:V}{u:Value}{f:Pos}(hg:Gl X x)(hm:X.mg x=none)(a:bootBuiltins x=some u)(r:aV v u)(hn:x≠"__name__":=by decide)(hd:(x==("__debug__":Str))=false:=by decide):PE X (.Name x f) (tC v):=λ_ _ _ H _ I h=>lO I hg hm a ⟨v,H,I,r,h⟩ hn hd
variable{a b:Expr}{g p:TE}{f:Pos}
def PC(X:Cx)(h:CmpOp)(a b:Expr)(t:TE):Prop:=∀(c:RE)(s:Shared)(e:St)(H:Hp)(Q:VK),aL X c e H s->t e H Q->wpAny (model X.prog X.w) X.A (eval a X.env) (λv s₁=>wpAny (model X.prog X.w) X.A (eval b X.env) (λu d=>wpAny (model X.prog X.w) X.A (compareOp h v u) (EP X c e Q) X.xe d) X.xe s₁) X.xe s
def tB(t:TE):TT:=λd H Q=>t d H λx e=>∃c,x=.bl c/\Q c e
def qO(h:PC X i a b t)(h1:behindInMarks i b=false:=by first|exact nobehind _ (by decide) (by decide)|rfl):PT X (.Compare a [i] [b] f) (tB t):=by intro e s j H Q I k;refine wpAny_isTrue_Compare1 (cy (h e s j H _ I k) λv o h1=>cy h1 λu r h2=>cy h2 λc w⟨x,l,I1,m,n⟩=>?_) h1;obtain⟨d,rfl,q⟩:=n;cases m;exact sf ⟨l,I1,q⟩
variable{n o:TT}{mz:RJ}
def O6(t u:TT):TT:=λd H Q=>t d H λc e=>if c=true then u d e Q else Q false e
def tOr(t u:TT):TT:=λd H Q=>t d H λc e=>if c=true then Q true e else u d e Q
def O2(t:TT):TT:=λd H Q=>t d H λc e=>Q (!c) e
def mV(i:PT X a n):PW X (.BoolOp .And [a] f) n:=by intro k d s j H Q I h;refine isTrue_and (cy (i d s j H Q I h) λc l e=>?_);cases c with|true=>exact isTrue_and_nil e|false=>exact e
def dD(i:PT X a n):PW X (.BoolOp .Or [a] f) n:=by intro k d s j H Q I h;refine isTrue_or (cy (i d s j H Q I h) λc l e=>?_);cases c with|false=>exact isTrue_or_nil e|true=>exact e
def qN(l:PT X a n)(q:PW X (.BoolOp .And (b::mz) f) o):PW X (.BoolOp .And (a::b::mz) f) (O6 n o):=by intro k d s e H Q I h;refine isTrue_and (cy (l d s e H _ I h) λc m⟨i,I1,j⟩=>?_);cases c with|true=>exact q k d m e i Q I1 j|false=>exact⟨i,I1,j⟩
def fb(l:PT X a n)(q:PW X (.BoolOp .Or (b::mz) f) o):PW X (.BoolOp .Or (a::b::mz) f) (tOr n o):=by intro k d s e H Q I h;refine isTrue_or (cy (l d s e H _ I h) λc m⟨i,I1,j⟩=>?_);cases c with|true=>exact⟨i,I1,j⟩|false=>exact q k d m e i Q I1 j
def bZ(e:PT X a n):PT X (.UnaryOp .Not a f) (O2 n):=by intro d s i H Q I h;exact isTrue_not (e d s i H (λc j=>Q (!c) j) I h)
def NO(g p:TE):TE:=λd H Q=>g d H λx e=>∃c,x=.bl c/\if c=true then p d e Q else Q (.bl false) e
def O1(g p:TE):TE:=λd H Q=>g d H λx e=>∃c,x=.bl c/\if c=true then Q (.bl true) e else p d e Q
def NG(g:TE):TE:=λd H Q=>g d H λx e=>∃c,x=.bl c/\Q (.bl (!c)) e
def dF{d}(h:PE X a t):PE X (.BoolOp d [a] f) t:=λc s e H Q I i=>BoolOp_one (h c s e H Q I i)
def cI(l:PE X a g)(q:PE X (.BoolOp .And (b::mz) f) p):PE X (.BoolOp .And (a::b::mz) f) (NO g p):=by intro d s i H Q I h;refine BoolOp_and (cy (l d s i H _ I h) λv k⟨x,j,I1,m,e⟩=>?_);obtain⟨c,rfl,e⟩:=e;cases m;refine sf ?_;cases c with|true=>exact q d k i j Q I1 e|false=>exact⟨.bl false,j,I1,rfl,e⟩
def N4(l:PE X a g)(q:PE X (.BoolOp .Or (b::mz) f) p):PE X (.BoolOp .Or (a::b::mz) f) (O1 g p):=by intro d s i H Q I h;refine BoolOp_or (cy (l d s i H _ I h) λv k⟨x,j,I1,m,e⟩=>?_);obtain⟨c,rfl,e⟩:=e;cases m;refine sf ?_;cases c with|false=>exact q d k i j Q I1 e|true=>exact⟨.bl true,j,I1,rfl,e⟩
def Gd(i:PE X a g):PE X (.UnaryOp .Not a f) (NG g):=by intro d s j H Q I h;refine UnaryOp_ (cy (i d s j H _ I h) λv m⟨x,k,I1,l,e⟩=>?_);obtain⟨c,rfl,e⟩:=e;cases l;exact not_of (sf ⟨.bl (!c),k,I1,rfl,e⟩)
end
end L2
namespace L2
open PySem PySem.Spec PyProof.Rows
def aO(K:RC)(H:Hp)(a:Addr)(c:List V):Prop:=Rd H a (.lst c)\/∃(o:Obj)(b:RK)(n:Nat),K.lookup a=some o/\o.cls=.type "list"/\o.dict=none/\o.data=.seq b n/\b.size<=sizeLine/\aY c b.toList
def aT(K:RC)(H:Hp)(a:Addr)(c:List V):Prop:=Rd H a (.tup c)\/∃(o:Obj)(b:RK)(n:Nat),K.lookup a=some o/\o.cls=.type "tuple"/\o.data=.seq b n/\b.size<=sizeLine/\aY c b.toList
def Pn:Value->Option V|.none=>some .non|.bool b=>some (.bl b)|.int i _=>some (.int i)|.str x _=>some (.str x)|.bytes b _=>some (.byt b)|.float b _=>some (.flt b)|.ref a=>some (.ref a)|.type n=>some (.ty n)|_=>none
def aV.abs(r:aV x u):Pn u=some x:=by cases x with|non=>cases r;rfl|bl _=>cases r;rfl|int _=>obtain⟨t,rfl⟩:=r;rfl|str _=>obtain⟨t,rfl⟩:=r;rfl|byt _=>obtain⟨t,rfl⟩:=r;rfl|flt _=>obtain⟨t,rfl⟩:=r;rfl|ref _=>cases r;rfl|ty _=>cases r;rfl
def aV.inj(r:aV x u)(q:aV y u):x=y:=ji (r.abs.symm.trans q.abs)
theorem aY.inj:∀{a b:List V}{c:RG},aY a c->aY b c->a=b|_,_,_,.nil,.nil=>rfl|_,_,_,.cons r t,.cons d e=>by rw[r.inj d,aY.inj t e]
section
variable{X:Cx}{b:RE}{f:St}{H:Hp}{s:Shared}{a:Addr}{xs c:List V}
def aO.of{K:RC}(h:H a=some (.lst xs)):aO K H a xs:=.inl (.inl h)
def aT.of{K:RC}(h:H a=some (.tup xs)):aT K H a xs:=.inl (.inl h)
def aL.list(I:aL X b f H s)(h:aO X.K H a xs):∃d:List Value,aY xs d/\PlainL s.heap a d.toArray/\xs.length<=sizeLine:=by
 rcases h with h|⟨o,d,n,g,hc,hd,i,j,r⟩
 ·obtain⟨z,d,n,r,e⟩:=h.ok I.hok;exact⟨d,r,⟨_,n,e,rfl,rfl,rfl⟩,z⟩
 ·refine⟨d.toList,r,⟨o,n,I.kIn a o g,hc,hd,by simpa using i⟩,?_⟩;have e:=r.length;simp only[nn]at e;lia
def aL.tuple(I:aL X b f H s)(h:aT X.K H a xs):∃d:List Value,aY xs d/\IsTup s.heap a d.toArray/\xs.length<=sizeLine:=by
 rcases h with h|⟨o,d,n,g,hc,i,j,r⟩
 ·obtain⟨z,d,r,p⟩:=h.ok I.hok;exact⟨d,r,p,z⟩
 ·refine⟨d.toList,r,⟨o,I.kIn a o g,hc,n,by simpa using i⟩,?_⟩;have e:=r.length;simp only[nn]at e;lia
def aL.list_inj(I:aL X b f H s)(h:aO X.K H a xs)(h':aO X.K H a c):xs=c:=by
 obtain⟨i,r,⟨o,n,e,_,_,d⟩,_⟩:=I.list h;obtain⟨g,l,⟨p,q,j,_,_,k⟩,_⟩:=I.list h';rw[e]at j;cases j;rw[d]at k;injection k with m _;have:i=g:=by simpa using tl Array.toList m
 subst this;exact r.inj l
def aL.tuple_inj(I:aL X b f H s)(h:aT X.K H a xs)(h':aT X.K H a c):xs=c:=by
 obtain⟨i,r,⟨o,e,_,n,d⟩,_⟩:=I.tuple h;obtain⟨g,l,⟨p,j,_,q,k⟩,_⟩:=I.tuple h';rw[e]at j;cases j;rw[d]at k;injection k with m _;have:i=g:=by simpa using tl Array.toList m
 subst this;exact r.inj l
end
abbrev Cx.wish(X:Cx)(E:RD):Cx:={X with xe:=E}
abbrev Cx.nox(X:Cx):Cx:=X.wish λ_ _=>False
theorem Cx.Ok.wish{X:Cx}(ok:X.Ok)(E:RD):(X.wish E).Ok:=⟨ok.mod,ok.kind,ok.glob,ok.blt,ok.above,ok.inj,ok.has,ok.cab,ok.hd,ok.frames,ok.stk,ok.exf,ok.bs,ok.bsz,ok.noex,ok.exfs,ok.funs,ok.frf⟩
def Cx.Ok.unwish{X:Cx}{E:RD}(ok:(X.wish E).Ok):X.Ok:=⟨ok.mod,ok.kind,ok.glob,ok.blt,ok.above,ok.inj,ok.has,ok.cab,ok.hd,ok.frames,ok.stk,ok.exf,ok.bs,ok.bsz,ok.noex,ok.exfs,ok.funs,ok.frf⟩
section
variable{X:Cx}{a:RE}{b:St}{H:Hp}{s:Shared}{E:RD}
theorem aL.wish(I:aL X a b H s)(E:RD):aL (X.wish E) a b H s:=⟨I.ok.wish E,I.os,I.bare,I.base,I.loc,I.cell,I.free,I.freeC,I.pin,I.hok,I.len⟩
theorem aL.unwish(I:aL (X.wish E) a b H s):aL X a b H s:=⟨I.ok.unwish,I.os,I.bare,I.base,I.loc,I.cell,I.free,I.freeC,I.pin,I.hok,I.len⟩
theorem SP.unwish(h:SP (X.wish E) a D f e):SP X a D f e:=by cases f with|next=>obtain⟨c,d,I,q⟩:=h;exact⟨c,d,I.unwish,q⟩|brk=>obtain⟨c,d,I,q⟩:=h;exact⟨c,d,I.unwish,q⟩|cont=>obtain⟨c,d,I,q⟩:=h;exact⟨c,d,I.unwish,q⟩|ret u=>obtain⟨v,c,d,I,r,q⟩:=h;exact⟨v,c,d,I.unwish,r,q⟩
theorem xc.nox{st:List Stmt}{t:TS}(h:xc X.nox st t):xc X st t:=λa s b H D I c=>wpAny_mono (h a s b H D (I.wish _) c) (λ_ _ q=>q.unwish) λ_ _ z=>False.elim z
end
section
variable{X:Cx}{st:Stmt}{mz:List Stmt}{t u:TS}{e:Expr}{te:TE}{g:Pos}
def zS:TS:=λD a H=>D.nx a H
def Fw(t u:TS):TS:=λD a H=>t {D with nx:=u D} a H
def aA:xc X [] zS:=λ_ _ a H _ I h=>Qb ⟨a,H,I,h⟩
def ag(h1:PS X st t)(h2:xc X mz u):xc X (st::mz) (Fw t u):=by intro a s c H D I h;refine Rj (cy (h1 a s c H {D with nx:=u D} I h) λf d q=>?_);cases f with|next=>obtain⟨b,i,j,q⟩:=q;exact h2 a d b i D j q|ret v=>exact q|brk=>exact q|cont=>exact q
def ah(h1:PS X st t):xc X [st] t:=by intro a s b H D I h;refine Rj (cy (h1 a s b H D I h) λf c q=>?_);cases f with|next=>exact Qb q|ret v=>exact q|brk=>exact q|cont=>exact q
def aL.quiet(I:aL X a b H s):interactive X.env=false:=by simp[interactive,I.ok.kind]
def NL(te:TE):TS:=λD a H=>te a H λ_ b=>D.nx a b
def aN(c:PE X e te)(d:swapsWith e none g.line X.env=pure false:=by rfl):PS X (.Expr e g) (NL te):=by intro a s b H D I h;exact wpAny_Expr_any (cy (c a s b H _ I h) λv j⟨x,f,I1,k,i⟩=>⟨b,f,I1,i⟩) I.quiet d
def NE(te:TE):TS:=λD a H=>te a H D.rt
def ax(c:PE X e te):PS X (.Return (some e) g) (NE te):=by intro a s b H D I h;exact wpAny_Return_some (cy (c a s b H _ I h) λv j⟨x,d,I1,f,i⟩=>⟨x,b,d,I1,f,i⟩)
def IC(c:TT)(t u:TS):TS:=λD a H=>c a H λb d=>if b=true then t D a d else u D a d
def aJ(hc:PT X c tc)(n:xc X a t)(o:xc X b u):PS X (.If c a b g) (IC tc t u):=by intro f s i H D I h;refine wpAny_If (cy (hc f s i H _ I h) λd j⟨k,I1,l⟩=>?_);cases d with|true=>exact n f j i k D I1 l|false=>exact o f j i k D I1 l
def Lq:TS:=λ_ _ _=>False
def cz:PS X st Lq:=λ_ _ _ _ _ _ h=>h.elim
end
abbrev TG:=V->St->Hp->(St->Hp->Prop)->Prop
abbrev Nk:=List V->St->Hp->(St->Hp->Prop)->Prop
def PG(X:Cx)(a:Expr)(t:TG):Prop:=∀(b:RE)(s:Shared)(d:St)(H:Hp)(v:V)(u:Value)(Q:St->Hp->Prop),aL X b d H s->aV v u->t v d H Q->wpAny (model X.prog X.w) X.A (assign a X.env u) (λ_ f=>∃c e,aL X b c e f/\Q c e) X.xe s
def MV(X:Cx)(g:RJ)(t:Nk):Prop:=∀(a:RE)(s:Shared)(c:St)(H:Hp)(d:List V)(e:RG)(Q:St->Hp->Prop),aL X a c H s->aY d e->t d c H Q->wpAny (model X.prog X.w) X.A (assignInOrder ((assignEach g X.env).map (·.2)) e) (λ_ h=>∃b f,aL X a b f h/\Q b f) X.xe s
abbrev KB:=V->V->V->Hp->(Hp->Prop)->Prop
def KF(X:Cx)(t:KB):Prop:=∀(a:RE)(s:Shared)(b:St)(H:Hp)(o i v:V)(c iv u:Value)(Q:Hp->Prop),aL X a b H s->aV o c->aV i iv->aV v u->t o i v H Q->wpAny (model X.prog X.w) X.A (setItem c iv u) (λ_ e=>∃d,aL X a b d e/\Q d) X.xe s
section
variable{X:Cx}{c:Pos}
def i0(i:Nat):TG:=λv a H Q=>Q (a.set i (some v)) H
def Db(b:X.N.Nodup)(hi:X.N[i]?=some x)(d:MZ X.env.scope x)(e:X.fn x=true\/X.env.scope.names.lookup x=some .local:=by first|exact .inl rfl|exact .inr rfl|assumption):PG X (.Name x c) (i0 i):=by intro a s g H v u Q I r h;exact wpAny_assign_Name (uq I b hi d r (λj f=>⟨_,H,f,h⟩) e)
def Mz:Nk:=λa b H Q=>a=[]/\Q b H
def xH(t:TG)(u:Nk):Nk:=λb d H Q=>∃v r,b=v::r/\t v d H λa e=>u r a e Q
def gc:MV X [] Mz:=by intro a s b H d f Q I r h;obtain⟨e,h⟩:=h;subst e;cases r;exact assignInOrder_nil ⟨b,H,I,h⟩
def bo(h1:PG X e t)(h2:MV X b u)(f:(assignEach (e::b) X.env).map (·.2)=assign e X.env::(assignEach b X.env).map (·.2):=by rfl):MV X (e::b) (xH t u):=by intro a s g H n o Q I r h;obtain⟨v,p,i,h⟩:=h;subst i;cases r with|cons r j=>rw[f];refine assignInOrder_cons (cy (h1 a s g H _ _ _ I r h) λ_ k⟨d,l,I1,m⟩=>?_);exact h2 a k d l _ _ Q I1 j m
def Kc(K:RC)(n:Nat)(t:Nk):TG:=λv d H Q=>∃a b,v=.ref a/\aT K H a b/\b.length=n/\t b d H Q
def L3(hc:X.calm=true)(h:MV X f t)(hn:(assignEach f X.env).length=n:=by rfl)(g:(assignEach f X.env).findIdx? (·.1)=none:=by rfl):PG X (.Tuple f k c) (Kc X.K n t):=by intro d s j H v u Q I r i;obtain⟨a,m,p,q,w,i⟩:=i;subst p;cases r;obtain⟨x,l,y,A⟩:=I.tuple q;refine assign_Tuple_tuple (I.ok.hd hc) y (by simp[hn,<-w,l.length]) g λh' z=>?_;have I1:aL X d j H {s with heap:=h'}:=I.kept (t':=s.toks) λb o e=>z b o (k4 (iq e)) e;exact h d _ j H m _ Q I1 (by simpa using l) i
def Pj(b d:TE)(t:KB):TG:=λv a H Q=>b a H λo e=>d a e λi f=>t o i v f λg=>Q a g
def iU(e:PE X o f)(hi:PE X i g)(j:KF X t)(l:∀v,assign (.Subscript o i c) X.env v=(do
   let b<-holding [v] (eval o X.env)let iv<-holding [v,b] (eval i X.env)standAt c
   holding [v,b,iv] (setItem b iv v)release [v,b,iv] []):=by intro _;rfl):PG X (.Subscript o i c) (Pj f g t):=by intro a s d H v u Q I r h;rw[l];refine a_ (p_ (cy (e a s d H _ I h) λb k⟨x,m,I1,n,p⟩=>?_));refine a_ (p_ (cy (hi a k d m _ I1 p) λiv q⟨y,w,z,r2,A⟩=>?_));refine a_ (wpAny_standAt (a_ (p_ (cy (j a q d w x y v b iv u _ z n r2 r A) λ_ E⟨B,C,D⟩=>?_))));exact wpAny_release ⟨d,B,C,D⟩
def zT(te:TE)(g:TG):TS:=λD a H=>te a H λx b=>g x a b D.nx
def iS(f:PE X e te)(hg:PG X b g)(i:swapsWithSole [b] e c.line X.env=pure false:=by rfl)(j:swappedStores [b] e X.env=pure none:=by rfl)(h1:(assignEach [b] X.env).map (·.2)=[assign b X.env]:=by rfl):PS X (.Assign [b] e c) (zT te g):=by intro a s d H D I h;refine wpAny_Assign_stores (cy (f a s d H _ I h) λv k⟨x,l,I1,m,n⟩=>?_) i j;rw[h1];exact cy (hg a k d l x v _ I1 m n) λ_ o q=>q
def uO(d:X.N.Nodup)(hi:X.N[i]?=some x)(f:MZ X.env.scope x)(g:PE X e te)(j:swapsWith e (some (.Name x a)) c.line X.env=pure false:=by rfl)(l:X.fn x=true\/X.env.scope.names.lookup x=some .local:=by first|exact .inl rfl|exact .inr rfl|assumption):PS X (.Assign [.Name x a] e c) (zT te (i0 i)):=by intro b s k H D I h;refine wpAny_Assign_Name (cy (g b s k H _ I h) λv q⟨y,m,I1,n,o⟩=>?_) j;exact uq I1 d hi f n (λr p=>⟨_,m,p,o⟩) l
end
section
variable{X:Cx}{a:Pos}
end
structure It where
 go:Nat->Hp->Prop
 yld:Nat->Hp->V->Hp->Prop
 stop:Nat->Hp->Prop
def vP(X:Cx)(a:RE)(H:Hp)(b:Addr):Prop:=H b=none/\b≠X.env.locals/\b∉X.fs/\(b∈X.ex\/X.s₀.heap.objs.size<=b)/\(∀x c,X.env.cells.lookup x=some c->c≠b)/\∀p∈X.pn++a,p.1≠b
def aL.fpOk(I:aL X a h H s)(d:s.heap.objs.size<=b)(hn:f b=none):vP X a f b:=by
 refine⟨hn,ot (n0 I.lt d),I.nofs d,.inr (mu I.sz d),λx c e z=>?_,λp g z=>?_⟩
 ·obtain⟨v,q⟩:=I.cell x c e;exact absurd (n0 q.lt (by rw[z];exact d)) (rm _)
 ·exact absurd (n0 (iq (I.pin p g).1) (by rw[z];exact d)) (rm _)
structure vK(P:RH)(w:World)(K:RC)(tg:Expr)(J:It)(fp:RM)(it:Addr)(tn:Nat->Heap->Prop):Prop where
 mem:it∈fp
 obj:∀i h,tn i h->∀b∈fp,∃o,h.get? b=some o/\∀v,o.data≠.cell v
 keep:∀i h h',tn i h->(∀b∈fp,∀o,h.get? b=some o->h'.get? b=some o)->tn i h'
 item:∀(X:Cx),X.prog=P->X.w=w->X.K=K->X.calm=true->∀(i:Nat)(pins:RE)(s:Shared)(σ:St)(H:Hp)(E:RD),aL X pins σ H s->(∀b∈fp,vP X pins H b)->tn i s.heap->J.go i H->wpAny (model P w) X.A (pyNext (.ref it)) (λr s1=>∃u,r=some u/\wpAny (model P w) X.A (letOwnedTupleGo tg (.ref it) u) (λ_ s2=>∃x H',aL X pins σ H' s2/\aV x u/\J.yld i H x H'/\tn (i+1) s2.heap/\∀b∈fp,H' b=none) E s1) E s
 done:∀(X:Cx),X.prog=P->X.w=w->X.K=K->X.calm=true->∀(i:Nat)(pins:RE)(s:Shared)(σ:St)(H:Hp)(E:RD),aL X pins σ H s->(∀b∈fp,vP X pins H b)->tn i s.heap->J.stop i H->wpAny (model P w) X.A (pyNext (.ref it)) (λr s1=>r=none/\aL X pins σ H s1) E s
 self:∀(A:Around)(i:Nat)(s:Shared)(Q:RD)(E:RD),tn i s.heap->Q (.ref it) s->wpAny (model P w) A (pyIter (.ref it)) Q E s
abbrev TI:=St->Hp->(It->Hp->Prop)->Prop
def Pq(X:Cx)(a:RE)(g:St)(h:Expr)(R:It->Hp->Prop)(c:Value)(e:Shared):Prop:=∃(f:Addr)(fp:RM)(tn:Nat->Heap->Prop)(J:It)(d:Hp),c=.ref f/\aL X a g d e/\vK X.prog X.w X.K h J fp f tn/\tn 0 e.heap/\(∀b∈fp,vP X a d b)/\R J d
def PI(X:Cx)(d b:Expr)(e:TI):Prop:=∀(a:RE)(s:Shared)(c:St)(H:Hp)(R:It->Hp->Prop),aL X a c H s->e c H R->wpAny (model X.prog X.w) X.A (eval b X.env) (λv f=>wpAny (model X.prog X.w) X.A (pyIter v) (Pq X a c d R) X.xe f) X.xe s
def xF(b:s.heap.get? c=some o)(hc:o.cls=.type n)(hd:o.data=.fields d)(hn:["enumerate","zip","dict_itemiterator","dict_reverseitemiterator","odict_iterator","itertools.zip_longest","itertools.pairwise"].contains n=false)(a:Q () s):wpAny M A (letOwnedTupleGo e (.ref c) u) Q E s:=by unfold letOwnedTupleGo;cases e<;>first|exact e_ a|(cases u<;>first
 |exact e_ a
    |(refine a_ (wpAny_load b ?_)
      rw[hc,hd];show wpAny M A (if(["enumerate","zip","dict_itemiterator","dict_reverseitemiterator","odict_iterator","itertools.zip_longest","itertools.pairwise"].contains n&&d[0]?==some (rawInt _))=true then _ else _) Q E s;rw[ir (by intro h;rw[hn,Bool.false_and]at h;cases h)];exact e_ a))
def K8(K:RC)(a:Addr):It:=⟨λi H=>∃b x,aO K H a b/\b[i]?=some x,λi H x c=>c=H/\∀b,aO K H a b->b[i]?=some x,λi H=>∃b,aO K H a b/\b.length<=i⟩
def K7(K:RC)(a:Addr):It:=⟨λi H=>∃b x,aT K H a b/\b[i]?=some x,λi H x c=>c=H/\∀b,aT K H a b->b[i]?=some x,λi H=>∃b,aT K H a b/\b.length<=i⟩
def Iu(lo:Int)(n:Nat):It:=⟨λi _=>i<n,λi H x a=>a=H/\x=.int (lo+i),λi _=>n<=i⟩
def DY{P:RH}{w:World}{K:RC}{F:Expr}(a g:Addr):vK P w K F (K8 K a) [g] g (λi h=>h.IsListIter g a i)where
 mem:=by simp
 obj:=λi h st b j=>by
  have e:b=g:=by simpa using j
  subst e;obtain⟨o,e,c,d⟩:=st;exact⟨o,e,λv z=>by rw[d]at z;cases z⟩
 keep:=λi h h' st k=>st.at λo e=>k g (by simp) o e
 item:=by intro X q r t hc i f s D H E I m st hg;subst q r t;obtain⟨G,x,n,y⟩:=hg;obtain⟨A,B,p,J⟩:=I.list n;obtain⟨u,L,ru⟩:=B.get y;obtain⟨C,f1,f2,f3,f4,f5⟩:=m g (by simp);refine wpAny_pyNext_list_item st p.isList (x:=u) (by simpa using L) λh' l M=>?_;have I1:aL X f D H {s with heap:=h'}:=I.turned (t':=s.toks) (λb o j e=>(M.2 b j).trans e) C f1 f3 f4 f5;obtain⟨o,e,c,d⟩:=id l;exact⟨u,rfl,xF (s:={s with heap:=h'}) e c d (by decide) ⟨x,H,I1,ru,⟨rfl,λR O=>by rw[I.list_inj O n];exact y⟩,l,λb j=>(m b j).1⟩⟩
 done:=by intro X q r t hc i f s D H E I m st hg;subst q r t;obtain⟨G,n,y⟩:=hg;obtain⟨A,B,p,J⟩:=I.list n;obtain⟨C,f1,f2,f3,f4,f5⟩:=m g (by simp);have S:=B.length;exact wpAny_pyNext_list_end (I.ok.hd hc) st p.isList (by simp;lia) λh' Q=>⟨rfl,I.turned (t':=s.toks) (λb o j e=>Q b o j e) C f1 f3 f4 f5⟩
 self:=λ_ _ _ _ _ st h=>wpAny_pyIter_listiter st h
def BF{P:RH}{w:World}{K:RC}{F:Expr}(a g:Addr):vK P w K F (K7 K a) [g] g (λi h=>h.IsTupleIter g a i)where
 mem:=by simp
 obj:=λi h st b j=>by
  have e:b=g:=by simpa using j
  subst e;obtain⟨o,e,c,d⟩:=st;exact⟨o,e,λv z=>by rw[d]at z;cases z⟩
 keep:=λi h h' st k=>st.at λo e=>k g (by simp) o e
 item:=by intro X r t y hc i f s D H E I n st hg;subst r t y;obtain⟨G,x,q,A⟩:=hg;obtain⟨l,B,p,J⟩:=I.tuple q;obtain⟨u,L,ru⟩:=B.get A;obtain⟨C,f1,f2,f3,f4,f5⟩:=n g (by simp);refine wpAny_pyNext_tuple_item st (show s.heap.IsTuple a l.toArray from p) (x:=u) (by simpa using L) λh' m M=>?_;have I1:aL X f D H {s with heap:=h'}:=I.turned (t':=s.toks) (λb o j e=>(M.2 b j).trans e) C f1 f3 f4 f5;obtain⟨o,e,c,d⟩:=id m;exact⟨u,rfl,xF (s:={s with heap:=h'}) e c d (by decide) ⟨x,H,I1,ru,⟨rfl,λR O=>by rw[I.tuple_inj O q];exact A⟩,m,λb j=>(n b j).1⟩⟩
 done:=by intro X r t y hc i f s D H E I n st hg;subst r t y;obtain⟨G,q,A⟩:=hg;obtain⟨l,B,p,J⟩:=I.tuple q;obtain⟨C,f1,f2,f3,f4,f5⟩:=n g (by simp);have S:=B.length;exact wpAny_pyNext_tuple_end (I.ok.hd hc) st (show s.heap.IsTuple a l.toArray from p) (by simp;lia) λh' Q=>⟨rfl,I.turned (t':=s.toks) (λb o j e=>Q b o j e) C f1 f3 f4 f5⟩
 self:=λ_ _ _ _ _ st h=>wpAny_pyIter_tupleiter st h
def BG{P:RH}{w:World}{K:RC}{r:Expr}(a:Addr)(lo:Int)(n:Nat):vK P w K r (Iu lo n) [a] a (λi h=>IsRangeIter h a (lo+(i:Nat)*1) ((n:Int)-(i:Nat)) 1)where
 mem:=by simp
 obj:=λi h st b d=>by
  have e:b=a:=by simpa using d
  subst e;exact⟨_,st,λv z=>by have u:Data.fields _=Data.cell v:=z;cases u⟩
 keep:=λi h h' st k=>k a (by simp) _ st
 item:=by intro X j l m hc i c s q H E I g st hg;subst j l m;obtain⟨p,f1,f2,f3,f4,f5⟩:=g a (by simp);have W:=Walks.range (prog:=X.prog) (w:=X.w) (I.ok.hd hc) a lo 1 n;refine W.item i s _ _ hg st λv h' tk x f y=>?_;obtain⟨t,rfl⟩:=x;have I1:aL X c q H {s with heap:=h',toks:=tk}:=I.turned (λb o d e=>y b o (by simpa using d) e) p f1 f3 f4 f5;refine⟨_,rfl,xF (s:={s with heap:=h',toks:=tk}) (n:="range_iterator") f rfl rfl (by decide) ⟨.int (lo+i),H,I1,⟨t,?_⟩,⟨rfl,rfl⟩,f,λb d=>(g b d).1⟩⟩;rw[Int.mul_one]
 done:=by intro X j l m hc i c s q H E I g st hg;subst j l m;obtain⟨p,f1,f2,f3,f4,f5⟩:=g a (by simp);exact wpAny_pyNext_range_end (I.ok.hd hc) st (by have:n<=i:=hg;lia) λh' A=>⟨rfl,I.turned (t':=s.toks) (λb o d e=>A b o d e) p f1 f3 f4 f5⟩
 self:=λ_ _ _ _ _ st h=>wpAny_pyIter_rangeiter st h
end L2
namespace L2
open PySem PySem.Spec PyProof.Rows
section
variable{X:Cx}{c:Expr}
def KR(K:RC)(d:TE):TI:=λe H R=>d e H λx b=>∃a,x=.ref a/\(∃f,aO K b a f)/\R (K8 K a) b
def Oq(K:RC)(d:TE):TI:=λe H R=>d e H λx b=>∃a,x=.ref a/\(∃f,aT K b a f)/\R (K7 K a) b
def Jq{l:Expr}{g:TE}(i:PE X l g):PI X c l (KR X.K g):=by
 intro d s j H R I h;refine cy (i d s j H _ I h) λv f⟨x,k,I1,m,n⟩=>?_;obtain⟨a,e,⟨w,r⟩,q⟩:=n;subst e;cases m;obtain⟨t,y,p,z⟩:=I1.list r;refine O_ p.isList ?_;refine⟨f.heap.objs.size,[f.heap.objs.size],_,_,k,rfl,I1.kept (t':=f.toks) λb o e=>b_ _ e,DY a _,⟨_,g_ _ rfl,rfl,rfl⟩,λb u=>?_,q⟩;have e:b=f.heap.objs.size:=by simpa using u
 subst e;exact I1.fpOk (f_ _) (I1.hok.fresh (f_ _))
def L1{l:Expr}{i:TE}(j:PE X l i):PI X c l (Oq X.K i):=by
 intro d s k H R I h;refine cy (j d s k H _ I h) λv f⟨x,m,I1,n,r⟩=>?_;obtain⟨a,e,⟨w,t⟩,q⟩:=r;subst e;cases n;obtain⟨g,y,p,z⟩:=I1.tuple t;refine C2 (show f.heap.IsTuple a g.toArray from p) ?_;refine⟨f.heap.objs.size,[f.heap.objs.size],_,_,m,rfl,I1.kept (t':=f.toks) λb o e=>b_ _ e,BF a _,⟨_,g_ _ rfl,rfl,rfl⟩,λb u=>?_,q⟩;have e:b=f.heap.objs.size:=by simpa using u
 subst e;exact I1.fpOk (f_ _) (I1.hok.fresh (f_ _))
def Ak{a:RE}{d:St}{H:Hp}{s:Shared}{R:It->Hp->Prop}{E:RD}{lo hi:Int}{t u v:Tok}{tk:Nat}(I:aL X a d H s)(h1:-(2^62)<=lo)(h2:lo<2^62)(h3:-(2^62)<=hi)(h4:hi<2^62)(q:R (Iu lo (hi-lo).toNat) H):wpAny (model X.prog X.w) X.A (pyIter (.ref s.heap.objs.size)) (Pq X a d c R) E {s with heap:=s.heap.push {cls:=.type "range",data:=.fields #[.int lo t,.int hi u,.int 1 v]},toks:=tk}:=by
 refine wpAny_pyIter_range (IsRange.new ..) (small_one h1 h2 h3 h4) ?_;have I1:aL X a d H {s with heap:=s.heap.push {cls:=.type "range",data:=.fields #[.int lo t,.int hi u,.int 1 v]},toks:=tk}:=I.kept λb o e=>b_ _ e;refine⟨(s.heap.push {cls:=.type "range",data:=.fields #[.int lo t,.int hi u,.int 1 v]}).objs.size,[(s.heap.push {cls:=.type "range",data:=.fields #[.int lo t,.int hi u,.int 1 v]}).objs.size],_,_,H,rfl,I1.kept (t':=tk) λb o e=>b_ _ e,BG _ lo (hi-lo).toNat,?_,λb f=>?_,q⟩
 ·have g:lo+((0:Nat):Int)*1=lo:=by simp
  have h:(((hi-lo).toNat:Nat):Int)-((0:Nat):Int)=Builtin.Range.rangeSize lo hi 1:=by rw[rangeSize_one];split<;>lia
  show IsRangeIter _ _ (lo+((0:Nat):Int)*1) ((((hi-lo).toNat:Nat):Int)-((0:Nat):Int)) 1;rw[g,h];exact g_ _ rfl
 ·have e:b=(s.heap.push {cls:=.type "range",data:=.fields #[.int lo t,.int hi u,.int 1 v]}).objs.size:=by simpa using f
  subst e;exact I1.fpOk (f_ _) (I1.hok.fresh (f_ _))
def Ot(a:TA):TI:=λb H R=>a b H λd e=>∃j:Int,d=[.int j]/\-(2^62)<=j/\j<2^62/\R (Iu 0 j.toNat) e
def Os(a:TA):TI:=λb H R=>a b H λd e=>∃i j:Int,d=[.int i,.int j]/\(-(2^62)<=i/\i<2^62/\-(2^62)<=j/\j<2^62)/\R (Iu i (j-i).toNat) e
def c9{a:Expr}{g:TA}{p b:Pos}(hg:Gl X "range")(hm:X.mg "range"=none)(i:PA X [a] g)(l:starEach [a] X.env=[(false,eval a X.env)]:=by rfl):PI X c (.Call (.Name "range" p) [a] [] b) (Ot g):=by intro d s k H R I h;refine Call_ (lO I hg hm boot_range (z_ (cy (i b d s k H _ I h) λu v⟨w,x,I1,m,f⟩=>?_) l rfl));obtain⟨j,e,f,n,q⟩:=f;subst e;cases m with|cons r o=>cases o;obtain⟨t,rfl⟩:=r;exact call_range_1 (Ak I1 (by lia) (by lia) f n (by simpa using q))
def xr(hg:Gl X "range")(hm:X.mg "range"=none)(n:PA X [a,b] o)(u:starEach [a,b] X.env=[(false,eval a X.env),(false,eval b X.env)]:=by rfl)(d:starEach [b] X.env=[(false,eval b X.env)]:=by rfl):PI X c (.Call (.Name "range" p) [a,b] [] g) (Os o):=by intro f s m H R I h;refine Call_ (lO I hg hm boot_range (z_ (cy (n g f s m H _ I h) λA B⟨C,D,I1,v,k⟩=>?_) (by rw[u,d]) (by rw[d];rfl)));obtain⟨i,j,e,⟨k,w,x,y⟩,q⟩:=k;subst e;cases v with|cons r l=>cases l with|cons z l=>cases l;obtain⟨t,rfl⟩:=r;obtain⟨E,rfl⟩:=z;exact call_range_2 (Ak I1 k w x y q)
def O4(h:TI)(g:TG)(j:TS):TS:=λD a H=>h a H λJ k=>∃W:Nat->Nat->St->Hp->Prop,(∃m,W 0 m a k)/\∀i m a H,W i m a H->(J.stop i H/\D.nx a H)\/(J.go i H/\∃N:St->Hp->Prop,(∀b d,N b d->∃f,f<m/\W (i+1) f b d)/\∀x d,J.yld i H x d->g x a d λe l=>j {D with nx:=N,ct:=N,bk:=D.nx} e l)
def uP(fp:RM)(h:Heap):List (Addr×Obj):=fp.filterMap λb=>(h.get? b).map λo=>(b,o)
def lN(a:b∈fp)(e:h.get? b=some o):(b,o)∈uP fp h:=C_.mpr ⟨b,a,by rw[e];rfl⟩
def Ep(a:p∈uP fp h):p.1∈fp/\h.get? p.1=some p.2:=by obtain⟨b,d,e⟩:=C_.mp a;cases q:h.get? b with|none=>rw[q]at e;cases e|some o=>rw[q]at e;have f:(b,o)=p:=ji e;subst f;exact⟨d,q⟩
def aL.pinned(I:aL X a h H s)(i:∀b∈fp,vP X a H b)(j:∀b∈fp,∃o,s.heap.get? b=some o/\∀v,o.data≠.cell v):aL X (a++uP fp s.heap) h H s:=I.pins_of λp k=>(Rz.mp k).elim (λz=>I.pin p (pa _ z)) λz=>by obtain⟨f,e⟩:=Ep z;obtain⟨l,f1,f2,_⟩:=i p.1 f;obtain⟨o,g,d⟩:=j p.1 f;rw[e]at g;cases g;exact⟨e,l,f1,f2,d⟩
def aL.unpinned(I:aL X (a++pl) b H s):aL X a b H s:=I.pins_of λp d=>I.pin p (pa _ (tA _ d))
def dw(F:PassesOwn (model X.prog X.w) X.A X.env X.xe)(hc:X.calm=true)(hi:PI X c B wi)(hg:PG X c g)(l:xc X G tb)(hs:∀x,foldedSetIterable B X.env x=pure x:=by intro _;rfl):PS X (.For c B G [] aa) (O4 wi g tb):=by
 intro a s Z H D I h;refine wpAny_For (cy (hi a s Z H _ I h) λv s1 h1=>cy h1 λad s2 h2=>?_) hs;obtain⟨it,fp,tn,J,H2,e,I2,T,Q,f2,W,⟨m0,w0⟩,K⟩:=h2;subst e;have k:∀{z:Hp},(∀b∈fp,z b=none)->∀b∈fp,vP X a z b:=λhn b l=>⟨hn b l,(f2 b l).2⟩;refine codeAny_forLoop_any (λn s'=>∃i p z,aL X a p z s'/\tn i s'.heap/\(∀b∈fp,z b=none)/\W i n p z) ?_ m0 ⟨0,Z,H2,I2,Q,λb l=>(f2 b l).1,w0⟩;rintro n s3⟨i,q,P,I3,L,M,w3⟩;rcases K i n q P w3 with⟨stop,qn⟩|⟨go,N,hN,step⟩
 ·refine Qa F (cy (T.done X rfl rfl rfl hc i a s3 q P X.xe I3 (k M) L stop) λr s4⟨R,I4⟩=>?_);subst R;exact Qb ⟨q,P,I4,qn⟩
 ·refine Qa F (cy (T.item X rfl rfl rfl hc i a s3 q P X.xe I3 (k M) L go) λr s4⟨u,R,h4⟩=>?_);subst R;refine Qa F (cy h4 λ_ s5⟨x,H5,I5,r5,y5,E,S⟩=>?_);have U:=I5.pinned (k S) (T.obj _ _ E);refine Qa F (cy (hg _ s5 q H5 x u _ U r5 (step x H5 y5)) λ_ s6⟨V,H6,I6,q6⟩=>?_);refine Qa F (cy (l _ s6 V H6 _ I6 q6) λf Y C=>?_);have again:∀{j:St}{t:Hp},aL X (a++uP fp s5.heap) j t Y->N j t->∃m,m<n/\∃i p z,aL X a p z Y/\tn i Y.heap/\(∀b∈fp,z b=none)/\W i m p z:=λ{j t}y O=>by obtain⟨m',hm,w7⟩:=hN j t O;refine⟨m',hm,i+1,j,t,y.unpinned,T.keep _ _ _ E λb l o e=>(y.pin (b,o) (pa _ (pa _ (lN l e)))).1,λb l=>?_,w7⟩;obtain⟨o,e,d⟩:=T.obj _ _ E b l;exact(y.pin (b,o) (pa _ (pa _ (lN l e)))).2.1
  cases f with|next=>obtain⟨j,t,y,O⟩:=C;exact again y O|cont=>obtain⟨j,t,y,O⟩:=C;exact again y O|brk=>obtain⟨j,t,y,C⟩:=C;exact⟨j,t,y.unpinned,C⟩|ret v=>obtain⟨x7,j,t,y,r7,C⟩:=C;exact⟨x7,j,t,y.unpinned,r7,C⟩
end
def jH{K:RC}{a:Addr}{xs:List V}{g:TG}{tb:TS}{D:oW}{b:St}{H:Hp}(Pv:Nat->St->Hp->Prop)(h0:Pv 0 b H)(n:∀i b H,i<=xs.length->Pv i b H->aO K H a xs)(o:∀i x b H,xs[i]?=some x->Pv i b H->g x b H λc j=>tb {D with nx:=Pv (i+1),ct:=Pv (i+1),bk:=D.nx} c j)(hd:∀b H,Pv xs.length b H->D.nx b H):∃W:Nat->Nat->St->Hp->Prop,(∃m,W 0 m b H)/\∀i m b H,W i m b H->((K8 K a).stop i H/\D.nx b H)\/((K8 K a).go i H/\∃N:St->Hp->Prop,(∀d f,N d f->∃l,l<m/\W (i+1) l d f)/\∀x f,(K8 K a).yld i H x f->g x b f λc j=>tb {D with nx:=N,ct:=N,bk:=D.nx} c j):=by
 refine⟨λi m b H=>m=xs.length-i/\i<=xs.length/\Pv i b H,⟨xs.length,by simp,m_ _,h0⟩,?_⟩;rintro i m b H⟨rfl,hi,p⟩;have q:=n i b H hi p
 by_cases h:i<xs.length
 ·refine .inr ⟨⟨xs,xs[i],q,by simp[h]⟩,Pv (i+1),λd f k=>⟨xs.length-(i+1),by lia,rfl,h,k⟩,λx f y=>?_⟩;obtain⟨e,y⟩:=y;subst e;exact o i x b _ (y xs q) p
 ·have e:i=xs.length:=by lia
  subst e;exact .inl ⟨⟨xs,q,f_ _⟩,hd b H p⟩
def Ke{K:RC}{a:Addr}{xs:List V}{g:TG}{l:TS}{D:oW}{b:St}{H:Hp}(Pv:Nat->St->Hp->Prop)(h0:Pv 0 b H)(o:∀i b H,i<=xs.length->Pv i b H->aT K H a xs)(r:∀i x b H,xs[i]?=some x->Pv i b H->g x b H λc j=>l {D with nx:=Pv (i+1),ct:=Pv (i+1),bk:=D.nx} c j)(hd:∀b H,Pv xs.length b H->D.nx b H):∃W:Nat->Nat->St->Hp->Prop,(∃m,W 0 m b H)/\∀i m b H,W i m b H->((K7 K a).stop i H/\D.nx b H)\/((K7 K a).go i H/\∃N:St->Hp->Prop,(∀d f,N d f->∃n,n<m/\W (i+1) n d f)/\∀x f,(K7 K a).yld i H x f->g x b f λc j=>l {D with nx:=N,ct:=N,bk:=D.nx} c j):=by
 refine⟨λi m b H=>m=xs.length-i/\i<=xs.length/\Pv i b H,⟨xs.length,by simp,m_ _,h0⟩,?_⟩;rintro i m b H⟨rfl,hi,p⟩;have q:=o i b H hi p
 by_cases h:i<xs.length
 ·refine .inr ⟨⟨xs,xs[i],q,by simp[h]⟩,Pv (i+1),λd f k=>⟨xs.length-(i+1),by lia,rfl,h,k⟩,λx f y=>?_⟩;obtain⟨e,y⟩:=y;subst e;exact r i x b _ (y xs q) p
 ·have e:i=xs.length:=by lia
  subst e;exact .inl ⟨⟨xs,q,f_ _⟩,hd b H p⟩
def gO{lo:Int}{n:Nat}{g:TG}{j:TS}{D:oW}{a:St}{H:Hp}(Pv:Nat->St->Hp->Prop)(h0:Pv 0 a H)(o:∀i a H,i<n->Pv i a H->g (.int (lo+i)) a H λb h=>j {D with nx:=Pv (i+1),ct:=Pv (i+1),bk:=D.nx} b h)(hd:∀a H,Pv n a H->D.nx a H):∃W:Nat->Nat->St->Hp->Prop,(∃m,W 0 m a H)/\∀i m a H,W i m a H->((Iu lo n).stop i H/\D.nx a H)\/((Iu lo n).go i H/\∃N:St->Hp->Prop,(∀c d,N c d->∃l,l<m/\W (i+1) l c d)/\∀x d,(Iu lo n).yld i H x d->g x a d λb h=>j {D with nx:=N,ct:=N,bk:=D.nx} b h):=by
 refine⟨λi m a H=>m=n-i/\i<=n/\Pv i a H,⟨n,by simp,m_ _,h0⟩,?_⟩;rintro i m a H⟨rfl,hi,p⟩
 by_cases f:i<n
 ·refine .inr ⟨f,Pv (i+1),λc d k=>⟨n-(i+1),by lia,rfl,f,k⟩,λx d y=>?_⟩;obtain⟨e,y⟩:=y;subst e y;exact o i a _ f p
 ·have e:i=n:=by lia
  subst e;exact .inl ⟨f_ _,hd a H p⟩
end L2
namespace L2
open PySem PySem.Spec PyProof.Rows
abbrev R2:=V->V->Hp->VK->Prop
def lS(X:Cx)(f:Value->Value->Sem Value)(r:R2):Prop:=∀(a:RE)(s:Shared)(b:St)(H:Hp)(x y:V)(v u:Value)(Q:VK),aL X a b H s->aV x v->aV y u->r x y H Q->wpAny (model X.prog X.w) X.A (f v u) (EP X a b Q) X.xe s
def Po(X:Cx)(f:Value->Sem Value)(r:V->Hp->VK->Prop):Prop:=∀(a:RE)(s:Shared)(b:St)(H:Hp)(x:V)(v:Value)(Q:VK),aL X a b H s->aV x v->r x H Q->wpAny (model X.prog X.w) X.A (f v) (EP X a b Q) X.xe s
def cN(X:Cx)(f:Value)(r:List V->Hp->VK->Prop):Prop:=∀(a:RE)(s:Shared)(b:St)(H:Hp)(c:List V)(d:RG)(Q:VK),aL X a b H s->aY c d->r c H Q->wpAny (model X.prog X.w) X.A (call f d) (EP X a b Q) X.xe s
def Pp(X:Cx)(r:V->Hp->(Bool->Hp->Prop)->Prop):Prop:=∀(a:RE)(s:Shared)(b:St)(H:Hp)(x:V)(v:Value)(Q:Bool->Hp->Prop),aL X a b H s->aV x v->r x H Q->wpAny (model X.prog X.w) X.A (truthy v) (TP X a b Q) X.xe s
def M9(r:R2)(b c:TE):TE:=λa H Q=>b a H λx d=>c a d λy e=>r x y e Q
def tUn(r:V->Hp->VK->Prop)(a:TE):TE:=λb H Q=>a b H λx c=>r x c Q
def rI(C:Int->Int->Prop)(g:Int->Int->V):R2:=λx y H Q=>∃i j,x=.int i/\y=.int j/\C i j/\Q (g i j) H
def Jj(g:Int->Int->V):R2:=λx y H Q=>∃i j,x=.int i/\y=.int j/\Q (g i j) H
def rU(g:Int->V):V->Hp->VK->Prop:=λx H Q=>∃i,x=.int i/\Q (g i) H
section
variable{X:Cx}{a b c:Expr}{d l tc:TE}{e:Pos}
def MO(q:PE X a d)(r:PE X b l){g:RE}{s:Shared}{i:St}{H:Hp}{R:V->V->Hp->Prop}(I:aL X g i H s)(h:d i H λx p=>l i p λy j=>R x y j){Q:RD}{f:Value->Value->Sem Value}(t:∀v u o x y j,aL X g i j o->aV x v->aV y u->R x y j->wpAny (model X.prog X.w) X.A (f v u) Q X.xe o):wpAny (model X.prog X.w) X.A (eval a X.env) (λv s₁=>wpAny (model X.prog X.w) X.A (eval b X.env) (λu n=>wpAny (model X.prog X.w) X.A (f v u) Q X.xe n) X.xe s₁) X.xe s:=by refine cy (q g s i H _ I h) λv k⟨x,p,I1,m,z⟩=>?_;refine cy (r g k i p _ I1 z) λu o⟨y,j,B,r2,C⟩=>?_;exact t v u o x y j B m r2 C
def av{g:Operator}{r:R2}(i:lS X (binaryOp g) r)(j:PE X a d)(n:PE X b l):PE X (.BinOp a g b e) (M9 r d l):=by intro f s k H Q I h;exact wpAny_BinOp (MO j n I h λv u m x y o p t w q=>i f m k o x y v u Q p t w q)
def N3(i:Po X (unaryOp j) r)(n:PE X a d):PE X (.UnaryOp j a e) (tUn r d):=by intro f s g H Q I h;exact UnaryOp_ (cy (n f s g H _ I h) λv k⟨x,m,I1,o,p⟩=>i f k g m x v Q I1 o p)
def N6{f:Value->Value->Sem Value}{C:Int->Int->Prop}{g:Int->Int->Int}(rule:∀(i j:Int)(t u:Tok)(s:Shared)(Q:RD)(E:RD),C i j->Q (.int (g i j) s.toks) {s with toks:=s.toks+1}->wpAny (model X.prog X.w) X.A (f (.int i t) (.int j u)) Q E s):lS X f (rI C λi j=>.int (g i j)):=by intro k s p H x y v u Q I m n h;obtain⟨i,j,rfl,rfl,hc,q⟩:=h;obtain⟨t,rfl⟩:=m;obtain⟨o,rfl⟩:=n;exact rule i j t o s _ _ hc ⟨.int (g i j),H,I.tok _,⟨_,rfl⟩,q⟩
def Ma{f:Value->Value->Sem Value}{g:Int->Int->Int}(rule:∀(i j:Int)(t u:Tok)(s:Shared)(Q:RD)(E:RD),Q (.int (g i j) s.toks) {s with toks:=s.toks+1}->wpAny (model X.prog X.w) X.A (f (.int i t) (.int j u)) Q E s):lS X f (Jj λi j=>.int (g i j)):=by intro k s p H x y v u Q I m n h;obtain⟨i,j,rfl,rfl,q⟩:=h;obtain⟨t,rfl⟩:=m;obtain⟨o,rfl⟩:=n;exact rule i j t o s _ _ ⟨.int (g i j),H,I.tok _,⟨_,rfl⟩,q⟩
def JA{f:Value->Value->Sem Value}{g:Int->Int->Bool}(rule:∀(i j:Int)(t u:Tok)(s:Shared)(Q:RD)(E:RD),Q (.bool (g i j)) s->wpAny (model X.prog X.w) X.A (f (.int i t) (.int j u)) Q E s):lS X f (Jj λi j=>.bl (g i j)):=by intro k s p H x y v u Q I m n h;obtain⟨i,j,rfl,rfl,q⟩:=h;obtain⟨t,rfl⟩:=m;obtain⟨o,rfl⟩:=n;exact rule i j t o s _ _ ⟨.bl (g i j),H,I,rfl,q⟩
def fh(i j:Int):Prop:=0<j/\j<1073741824
def Pu(i j:Int):Prop:=0<=j/\j<=1000000/\i.natAbs<2^64
def M3(i j:Int):Prop:=(-(2^64)<i/\i<2^64)\/(-(2^64)<j/\j<2^64)
def M3.ok(h:M3 i j):IntMulOk i j:=by
 rcases h with⟨h1,h2⟩|⟨h1,h2⟩
 ·exact .of_left (intBits_le_64 h1 h2)
 ·exact .of_right (intBits_le_64 h1 h2)
def two_pow_nn(k:Nat):(0:Int)<=2^k:=by rw[two_pow_cast];exact j2 _
def bS:lS X (binaryOp .Add) (Jj λi j=>.int (i+j)):=Ma λ_ _ _ _ _ _ _ q=>add_int q
def fu:lS X (binaryOp .Sub) (Jj λi j=>.int (i-j)):=Ma λ_ _ _ _ _ _ _ q=>sub_int q
def gL:lS X (binaryOp .Mult) (rI M3 λi j=>.int (i*j)):=N6 λ_ _ _ _ _ _ _ hc q=>mul_int q hc.ok
def bB:lS X (binaryOp .FloorDiv) (rI fh λi j=>.int (i/j)):=N6 λi j _ _ _ _ _ hc q=>by have h1:(0:Int)<j:=hc.1;have h2:j<1073741824:=hc.2;exact floordiv_int (by lia) (by rw[Qm i (by lia)];exact q) (.inl (PyProof.noPylong_small (by lia)))
def aR:lS X (binaryOp .Mod) (rI (λ_ j=>0<j) λi j=>.int (i%j)):=N6 λi j _ _ _ _ _ hc q=>by have h1:(0:Int)<j:=hc;exact mod_int' (by lia) (by rw[Int.fmod_eq_emod_of_nonneg i (by lia)];exact q)
def L8:lS X (binaryOp .Pow) (rI Pu λi j=>.int (i^j.toNat)):=N6 λ_ _ _ _ _ _ _ hc q=>pow_int_small hc.1 hc.2.1 hc.2.2 q
def L7:lS X (binaryOp .RShift) (rI (λ_ j=>0<=j) λi j=>.int (i/2^j.toNat)):=N6 λi j _ _ _ _ _ hc q=>rshift_int hc (by rw[Qm i (two_pow_nn _)];exact q)
def Gi:lS X (binaryOp .BitAnd) (Jj λi j=>.int (Builtin.bitAnd i j)):=Ma λ_ _ _ _ _ _ _ q=>and_int q
def unI{f:Value->Sem Value}{g:Int->Int}(rule:∀(i:Int)(t:Tok)(s:Shared)(Q:RD)(E:RD),Q (.int (g i) s.toks) {s with toks:=s.toks+1}->wpAny (model X.prog X.w) X.A (f (.int i t)) Q E s):Po X f (rU λi=>.int (g i)):=by intro j s m H x v Q I k h;obtain⟨i,rfl,q⟩:=h;obtain⟨t,rfl⟩:=k;exact rule i t s _ _ ⟨.int (g i),H,I.tok _,⟨_,rfl⟩,q⟩
def Lj:Po X (unaryOp .USub) (rU λi=>.int (-i)):=unI λ_ _ _ _ _ q=>neg_int q
end
def fi:V->V->Bool|.non,.non=>true|.non,.int _=>true|.int _,.non=>true|.non,.bl _=>true|.bl _,.non=>true|.non,.str _=>true|.str _,.non=>true|.int _,.int _=>true|.bl _,.bl _=>true|.str _,.str _=>true|.byt _,.byt _=>true|.int _,.str _=>true|.str _,.int _=>true|.bl _,.str _=>true|.str _,.bl _=>true|_,_=>false
def rEq:R2:=λx y H Q=>fi x y=true/\Q (.bl (decide (x=y))) H
def rNe:R2:=λx y H Q=>fi x y=true/\Q (.bl (!decide (x=y))) H
def Dx:decide (V.int i=V.int j)=(i==j):=by rw[QN];simp
def Hy:decide (V.bl i=V.bl j)=(i==j):=by rw[QN];simp
def Dw:decide (V.str i=V.str j)=(i==j):=by rw[QN];simp
def Dy:decide (V.byt i=V.byt j)=(i.toList==j.toList):=by rw[QN];cases i;cases j;simp
section
variable{X:Cx}{a b c:Expr}{f g tc:TE}{l:Pos}
def bJ(I:aL X d h H s)(q:Q (.bl k) H)(e:k=i):EP X d h Q (.bool i) s:=by subst e;exact⟨.bl k,H,I,rfl,q⟩
def aS:lS X (compareOp .Eq) rEq:=by intro n s o H x y v u Q I m d h;obtain⟨k,q⟩:=h;cases x with
 |non=>cases m;cases y with|non=>cases d;exact PySem.EqNone.eq_none_none (bJ I q (by simp))|bl j=>cases d;exact PySem.EqNone.eq_none_bool (bJ I q (by simp))|int j=>obtain⟨e,rfl⟩:=d;exact PySem.EqNone.eq_none_int (bJ I q (by simp))|str j=>obtain⟨e,rfl⟩:=d;exact PySem.EqNone.eq_none_str (bJ I q (by simp))|_=>exact absurd (show false=true from k) lm
 |bl i=>cases m;cases y with|non=>cases d;exact PySem.EqNone.eq_bool_none (bJ I q (by simp))|bl j=>cases d;exact eq_bool (bJ I q Hy)|str j=>obtain⟨e,rfl⟩:=d;exact PySem.EqMixed.eq_bool_str (bJ I q (by simp))|_=>exact absurd (show false=true from k) lm
 |int i=>obtain⟨t,rfl⟩:=m;cases y with|non=>cases d;exact PySem.EqNone.eq_int_none (bJ I q (by simp))|int j=>obtain⟨e,rfl⟩:=d;exact eq_int (bJ I q Dx)|str j=>obtain⟨e,rfl⟩:=d;exact PySem.EqMixed.eq_int_str (bJ I q (by simp))|_=>exact absurd (show false=true from k) lm
 |str i=>obtain⟨t,rfl⟩:=m;cases y with|non=>cases d;exact PySem.EqNone.eq_str_none (bJ I q (by simp))|bl j=>cases d;exact PySem.EqMixed.eq_str_bool (bJ I q (by simp))|int j=>obtain⟨e,rfl⟩:=d;exact PySem.EqMixed.eq_str_int (bJ I q (by simp))|str j=>obtain⟨e,rfl⟩:=d;exact eq_str (bJ I q Dw)|_=>exact absurd (show false=true from k) lm
 |byt i=>obtain⟨t,rfl⟩:=m;cases y with|byt j=>obtain⟨e,rfl⟩:=d;exact PySem.W.eq_bytes (bJ I q Dy)|_=>exact absurd (show false=true from k) lm
 |_=>cases y<;>exact absurd (show false=true from k) lm
def As:lS X (compareOp .NotEq) rNe:=by intro n s o H x y v u Q I m d h;obtain⟨k,q⟩:=h;cases x with
 |non=>cases m;cases y with|non=>cases d;exact PySem.EqNone.ne_none_none (bJ I q (by simp))|bl j=>cases d;exact PySem.EqNone.ne_none_bool (bJ I q (by simp))|int j=>obtain⟨e,rfl⟩:=d;exact PySem.EqNone.ne_none_int (bJ I q (by simp))|str j=>obtain⟨e,rfl⟩:=d;exact PySem.EqNone.ne_none_str (bJ I q (by simp))|_=>exact absurd (show false=true from k) lm
 |bl i=>cases m;cases y with|non=>cases d;exact PySem.EqNone.ne_bool_none (bJ I q (by simp))|bl j=>cases d;exact ne_bool (bJ I q (tl not Hy))|str j=>obtain⟨e,rfl⟩:=d;exact PySem.EqMixed.ne_bool_str (bJ I q (by simp))|_=>exact absurd (show false=true from k) lm
 |int i=>obtain⟨t,rfl⟩:=m;cases y with|non=>cases d;exact PySem.EqNone.ne_int_none (bJ I q (by simp))|int j=>obtain⟨e,rfl⟩:=d;exact ne_int (bJ I q (tl not Dx))|str j=>obtain⟨e,rfl⟩:=d;exact PySem.EqMixed.ne_int_str (bJ I q (by simp))|_=>exact absurd (show false=true from k) lm
 |str i=>obtain⟨t,rfl⟩:=m;cases y with|non=>cases d;exact PySem.EqNone.ne_str_none (bJ I q (by simp))|bl j=>cases d;exact PySem.EqMixed.ne_str_bool (bJ I q (by simp))|int j=>obtain⟨e,rfl⟩:=d;exact PySem.EqMixed.ne_str_int (bJ I q (by simp))|str j=>obtain⟨e,rfl⟩:=d;exact ne_str (bJ I q (tl not Dw))|_=>exact absurd (show false=true from k) lm
 |byt i=>obtain⟨t,rfl⟩:=m;cases y with|byt j=>obtain⟨e,rfl⟩:=d;exact PySem.W.ne_bytes (bJ I q (tl not Dy))|_=>exact absurd (show false=true from k) lm
 |_=>cases y<;>exact absurd (show false=true from k) lm
def At:lS X (compareOp .Lt) (Jj λi j=>.bl (decide (i<j))):=JA λ_ _ _ _ _ _ _ q=>lt_int q
def j4:lS X (compareOp .LtE) (Jj λi j=>.bl (decide (i<=j))):=JA λ_ _ _ _ _ _ _ q=>le_int q
def sE:lS X (compareOp .Gt) (Jj λi j=>.bl (decide (j<i))):=JA λ_ _ _ _ _ _ _ q=>gt_int q
def KQ:lS X (compareOp .GtE) (Jj λi j=>.bl (decide (j<=i))):=JA λ_ _ _ _ _ _ _ q=>ge_int q
def Em:lS X (compareOp .In) (λx y H Q=>∃i j,x=.str i/\y=.str j/\Q (.bl (!(Builtin.Str.occurrences j i 0 j.length 1).isEmpty)) H):=by intro d s m H x y v u Q I e k h;obtain⟨i,j,rfl,rfl,q⟩:=h;obtain⟨t,rfl⟩:=e;obtain⟨n,rfl⟩:=k;exact in_str (bJ I q rfl)
def BX:lS X (compareOp .Is) (λx y H Q=>y=.non/\Q (.bl (decide (x=.non))) H):=by intro d s j H x y v u Q I e i h;obtain⟨rfl,q⟩:=h;cases i;refine is_none_gen (bJ I q ?_);cases x<;>first|(cases e;rfl)|(obtain⟨t,rfl⟩:=e;rfl)
def Dh:lS X (compareOp .IsNot) (λx y H Q=>y=.non/\Q (.bl (!decide (x=.non))) H):=by intro d s j H x y v u Q I e i h;obtain⟨rfl,q⟩:=h;cases i;refine isnot_none_gen (bJ I q ?_);cases x<;>first|(cases e;rfl)|(obtain⟨t,rfl⟩:=e;rfl)
def aE(b:Expr)(h:d≠.In:=by decide)(h2:d≠.NotIn:=by decide):behindInMarks d b=false:=by
 have e:(d==CmpOp.In)=false:=by cases d<;>first|rfl|exact absurd rfl h
 have i:(d==CmpOp.NotIn)=false:=by cases d<;>first|rfl|exact absurd rfl h2
 cases b<;>simp[behindInMarks,e,i]
def bW(i:lS X (compareOp e) r)(j:PE X a f)(n:PE X b g)(hm:behindInMarks e b=false):PE X (.Compare a [e] [b] l) (M9 r f g):=by intro d s k H Q I h;exact wpAny_Compare1 (MO j n I h λv u m x y o p t w q=>i d m k o x y v u Q p t w q) hm
def KL(t:TE):TT:=λd H Q=>t d H λx e=>∃k,x=.bl k/\Q k e
def aC(n:lS X (compareOp j) r)(o:PE X a f)(p:PE X b g)(hm:behindInMarks j b=false):PT X (.Compare a [j] [b] l) (KL (M9 r f g)):=by
 intro d s i H Q I h;refine wpAny_isTrue_Compare1 (cy (o d s i H _ I h) λv m⟨x,q,I1,t,w⟩=>cy (p d m i q _ I1 w) λu A⟨y,B,C,r2,D⟩=>cy (n d A i B x y v u _ C t r2 D) λc K⟨z,E,F,G,k,e,J⟩=>?_) hm
 subst e;cases G;exact sf ⟨E,F,J⟩
def Fy(r h:R2)(f g tc:TE):TE:=λd H Q=>f d H λx i=>g d i λy j=>r x y j λz e=>∃k,z=.bl k/\(if k=true then tc d e λm n=>h y m n Q else Q (.bl false) e)
def uS(w:lS X (compareOp o) r)(n:lS X (compareOp j) A)(B:PE X a f)(C:PE X b g)(hc:PE X c tc)(hm:lastMarks [o,j] [b,c]=false:=by with_unfolding_all rfl):PE X (.Compare a [o,j] [b,c] l) (Fy r A f g tc):=by
 intro i s m H Q I h;refine Compare_chain (cy (B i s m H _ I h) λv D⟨x,E,I1,F,G⟩=>chain_link (cy (C i D m E _ I1 G) λu J⟨y,K,L,r2,M⟩=>cy (w i J m K x y v u _ L F r2 M) λd N⟨z,p,q,O,k,e,t⟩=>?_)) hm
 subst e;cases O;refine sf ?_;cases k with|false=>exact ite_ff ⟨.bl false,p,q,rfl,t⟩|true=>exact ite_tt (chain_last (cy (hc i N m p _ q t) λP R⟨S,T,U,V,W⟩=>n i R m T y S u P Q U r2 V W))
def Am(w:lS X (compareOp o) r)(n:lS X (compareOp j) A)(B:PE X a f)(C:PE X b g)(hc:PE X c tc)(hm:lastMarks [o,j] [b,c]=false:=by with_unfolding_all rfl):PT X (.Compare a [o,j] [b,c] l) (KL (Fy r A f g tc)):=by
 intro i s m H Q I h;refine isTrue_chain (cy (B i s m H _ I h) λv D⟨x,E,I1,F,G⟩=>test_link (cy (C i D m E _ I1 G) λu J⟨y,K,L,r2,M⟩=>cy (w i J m K x y v u _ L F r2 M) λd N⟨z,p,q,O,k,e,t⟩=>?_)) hm
 subst e;cases O;refine sf ?_;cases k with|false=>obtain⟨k',P,R⟩:=t;cases P;exact ite_ff ⟨p,q,R⟩|true=>refine ite_tt (test_last (cy (hc i N m p _ q t) λS T⟨U,V,W,Y,Z⟩=>cy (n i T m V y U u S _ W r2 Y Z) λd' s5⟨z2,H5,I5,r5,k2,e2,q5⟩=>?_));subst e2;cases r5;exact sf ⟨H5,I5,q5⟩
def MU(K:RC)(x:V)(H:Hp)(k:Bool):Prop:=match x with|.non=>k=false|.bl b=>k=b|.int i=>k=(i !=0)|.str y=>y.length<=sizeLine/\k=((y.length:Int)!=0)|.byt y=>y.size<=sizeLine/\k=((y.size:Int)!=0)|.ref p=>(∃d,aO K H p d/\k=!d.isEmpty)\/(∃d,aT K H p d/\k=!d.isEmpty)\/∃e,H p=some (.dK e)/\k=!e.isEmpty|_=>False
def Cy(r:KV d e):(!e.isEmpty)=!d.isEmpty:=by cases r<;>rfl
def vi(r:aY e d):(!d.toArray.isEmpty)=!e.isEmpty:=by cases r<;>simp
def q9:(sizeLine:Nat)<2^63:=by rw[j1];decide
def Lm:Pp X (λx H Q=>∃k,MU X.K x H k/\Q k H):=by intro C s G H x v Q I u h;obtain⟨k,e,q⟩:=h;have J:=q9;have L:sizeLine=16777216:=j1;cases x with|non=>cases u;have d:k=false:=e;subst d;exact truthy_none ⟨H,I,q⟩|bl b=>cases u;have d:k=b:=e;subst d;exact sf ⟨H,I,q⟩|int i=>obtain⟨t,rfl⟩:=u;have d:k=(i !=0):=e;subst d;exact PySem.P.truthy_int ⟨H,I,q⟩|str y=>obtain⟨t,rfl⟩:=u;obtain⟨E,d⟩:y.length<=sizeLine/\k=((y.length:Int)!=0):=e;subst d;exact PySem.P.truthy_str (by lia) ⟨H,I.tok _,q⟩|byt y=>obtain⟨t,rfl⟩:=u;obtain⟨E,d⟩:y.size<=sizeLine/\k=((y.size:Int)!=0):=e;subst d;exact PySem.W.truthy_bytes (by lia) ⟨H,I.tok _,q⟩|ref p=>
  cases u;have d:(∃o,aO X.K H p o/\k=!o.isEmpty)\/(∃o,aT X.K H p o/\k=!o.isEmpty)\/∃j,H p=some (.dK j)/\k=!j.isEmpty:=e;rcases d with⟨o,z,d⟩|⟨o,z,d⟩|⟨j,z,d⟩
  ·subst d;obtain⟨B,r,pl,D⟩:=I.list z;have n:=r.length;exact wpAny_truthy_list pl.isList (by simp only[j_];lia) ⟨H,I.tok _,by rw[vi r];exact q⟩
  ·subst d;obtain⟨B,r,pl,D⟩:=I.tuple z;have n:=r.length;exact truthy_tuple pl (by simp only[j_];lia) ⟨H,I.tok _,by rw[vi r];exact q⟩
  ·subst d;obtain⟨D,F,A,r,m⟩:j.length<=sizeLine/\(p==sysModules)=false/\∃A,KV j A/\s.heap.DictOf (aK X.prog X.w) p A:=I.hok p _ z;have n:j.length=A.length:=Paired.length r;exact wpAny_truthy_dict F m (by lia) ⟨H,I.tok _,by rw[Cy r];exact q⟩|_=>exact(show False from e).elim
def Ga(n:PE X a f)(o:∀d,isTrue a X.env d=(do let v<-d;standAt a.pos;holding [v] (truthy v))):PT X a (λi H Q=>f i H λx j=>∃k,MU X.K x j k/\Q k j):=by intro e s i H Q I h;exact isTrue_plain (cy (n e s i H _ I h) λv m⟨x,p,I1,q,r⟩=>Lm e m i p x v Q I1 q r) (o _)
def jC:lS X (binaryOp .Add) (λx y H Q=>∃i j,x=.str i/\y=.str j/\i.length+j.length<=sizeLine/\Q (.str (i++j)) H):=by intro d s o H x y v u Q I e k h;obtain⟨i,j,rfl,rfl,m,q⟩:=h;obtain⟨t,rfl⟩:=e;obtain⟨n,rfl⟩:=k;exact add_str (λn tk=>⟨.str (i++j),H,I.tok _,⟨_,rfl⟩,q⟩) m
def jV(r:aY [x] d):∃u,d=[u]/\aV x u:=by cases r with|cons e r2=>cases r2;exact⟨_,rfl,e⟩
def xi(r:aY [x,y] e):∃u d,e=[u,d]/\aV x u/\aV y d:=by cases r with|cons h r2=>cases r2 with|cons i j=>cases j;exact⟨_,_,rfl,h,i⟩
def E7(hc:X.calm=true):cN X (.builtin "max") (λe H Q=>∃i j,e=[.int i,.int j]/\Q (.int (if j>i then j else i)) H):=by
 intro m s n H e o Q I r h;obtain⟨i,j,rfl,q⟩:=h;obtain⟨u,p,rfl,⟨t,rfl⟩,⟨v,rfl⟩⟩:=xi r;refine max_two_ints (I.ok.hd hc) λh' tk k=>⟨_,H,I.kept k,?_,q⟩
 by_cases d:j>i
 ·rw[i_ d,i_ d];exact⟨_,rfl⟩
 ·rw[ir d,ir d];exact⟨_,rfl⟩
def rZ(hc:X.calm=true):cN X (.builtin "min") (λe H Q=>∃i j,e=[.int i,.int j]/\Q (.int (if j<i then j else i)) H):=by
 intro m s n H e o Q I r h;obtain⟨i,j,rfl,q⟩:=h;obtain⟨u,p,rfl,⟨t,rfl⟩,⟨v,rfl⟩⟩:=xi r;refine min_two_ints (I.ok.hd hc) λh' tk k=>⟨_,H,I.kept k,?_,q⟩
 by_cases d:j<i
 ·rw[i_ d,i_ d];exact⟨_,rfl⟩
 ·rw[ir d,ir d];exact⟨_,rfl⟩
def OG(K:RC)(x:V)(H:Hp)(n:Nat):Prop:=match x with|.str y=>y.length<=sizeLine/\n=y.length|.byt y=>y.size<=sizeLine/\n=y.size|.ref p=>(∃d,aO K H p d/\n=d.length)\/∃d,aT K H p d/\n=d.length|_=>False
def HN:cN X (.builtin "len") (λd H Q=>∃x n,d=[x]/\OG X.K x H n/\Q (.int n) H):=by
 intro w s B H d C Q I r h;obtain⟨x,n,rfl,e,q⟩:=h;obtain⟨u,rfl,k⟩:=jV r;have D:=q9;have E:sizeLine=16777216:=j1;cases x with|str y=>obtain⟨t,rfl⟩:=k;obtain⟨z,j⟩:y.length<=sizeLine/\n=y.length:=e;subst j;exact len_str (by lia) ⟨.int _,H,I.tok _,⟨_,rfl⟩,q⟩|byt y=>obtain⟨t,rfl⟩:=k;obtain⟨z,j⟩:y.size<=sizeLine/\n=y.size:=e;subst j;exact PySem.W.len_bytes (by lia) ⟨.int _,H,I.tok _,⟨_,rfl⟩,q⟩|ref p=>
  cases k;have j:(∃d,aO X.K H p d/\n=d.length)\/∃d,aT X.K H p d/\n=d.length:=e;rcases j with⟨d,m,j⟩|⟨d,m,j⟩
  ·subst j;obtain⟨o,v,pl,A⟩:=I.list m;have i:=v.length;exact Calls.call_len_list pl.isList (by simp only[j_];lia) ⟨.int d.length,H,I.tok _,⟨_,by simp only[j_];rw[i]⟩,q⟩
  ·subst j;obtain⟨o,v,pl,A⟩:=I.tuple m;have i:=v.length;exact len_tuple pl (by simp only[j_];lia) ⟨.int d.length,H,I.tok _,⟨_,by simp only[j_];rw[i]⟩,q⟩|_=>exact(show False from e).elim
def Bl:cN X (.builtin "divmod") (λd H Q=>∃i j,d=[.int i,.int j]/\fh i j/\∀p,H p=none->Q (.ref p) (az H p (.tup [.int (i/j),.int (i%j)]))):=by intro k s m H d n Q I r h;obtain⟨i,j,rfl,⟨h1,h2⟩,q⟩:=h;obtain⟨u,v,rfl,⟨t,rfl⟩,⟨w,rfl⟩⟩:=xi r;refine divmod_int (by lia) ?_ (.inl (PyProof.noPylong_small (by lia)));rw[Qm i (by lia),Int.fmod_eq_emod_of_nonneg i (by lia)];have hn:H s.heap.objs.size=none:=I.hok.fresh (f_ _);refine⟨.ref s.heap.objs.size,_,?_,rfl,q _ hn⟩;refine I.laid (λb o e=>b_ _ e) (f_ _) ⟨by simp only[oi,List.length_nil];rw[j1];decide,[.int (i/j) s.toks,.int (i%j) (s.toks+1)],.cons ⟨_,rfl⟩ (.cons ⟨_,rfl⟩ .nil),?_⟩;exact⟨_,g_ s.heap rfl,rfl,0,rfl⟩
end
end L2
namespace L2
open PySem PySem.Spec PyProof.Rows
structure CV(h:Heap)(x dx C:Addr)(mA:RF):Prop where
 obj:h.get? x=some (PySem.W.instObj C dx)ns:h.Ns1 dx mA
 ne:dx≠x
def Ew{h:Heap}{dx:Addr}{d:RF}(n:h.Ns1 dx d):∃f,h.get? dx=some f/\∀b,PySem.W.lookIn b f=some (d b):=by
 obtain⟨o,g,m,i,hd,j,_,hm⟩:=n;refine⟨o,i,λb=>?_⟩;have e:=hm b;unfold nsFind findBy at e;rw[<-Array.find?_toList]at e;unfold PySem.W.lookIn;rw[hd];dsimp only
 split
 ·rename_i y q;rw[q]at e;exact tl some e
 ·rename_i q;rw[q]at e;have a:g.toList.any (·.refKey)=false:=by rw[Q_];intro y k;obtain⟨z,t,c⟩:=j y (Array.mem_toList_iff.mp k);simp[DictEntry.refKey,c]
  have l:¬g.toList.any (·.refKey)=true:=by rw[a];exact lm
  rw[ir l];exact tl some e
def CV.look(I:CV h x dx C c):∃b,PySem.W.InstAt h x (PySem.W.instObj C dx) C (some b)/\∀a,PySem.W.lookIn a b=some (c a):=let⟨b,d,e⟩:=Ew I.ns
 ⟨b,⟨I.obj,rfl,rfl,d⟩,e⟩
section
variable{prog:RH}{w:World}{A:Around}{E:RD}{s:Shared}{K:RC}{x dx C f:Addr}{e:RF}{c:Str}{v:Value}
def Ka(X:K.In s.heap)(I:CV s.heap x dx C e)(hg:PySem.W.plainGet K C c=true)(hh:PySem.W.hasDictIn K C=true)(d:PySem.W.findIn K (.ref C) c=some none)(g:e c=some v)(a:PySem.W.handedIn v=true)(h:Q v {s with toks:=s.toks+1}):wpAny (model prog w) A (getAttr (.ref x) c b) Q E s:=by obtain⟨j,J,i⟩:=I.look;exact PySem.W.get_value X J (PySem.W.plainGet_of hg).1 (PySem.W.findObj_own hh d rfl (by rw[i,g])) a h
def Hi(X:K.In s.heap)(I:CV s.heap x dx C e)(hg:PySem.W.plainGet K C c=true)(a:PySem.W.findIn K (.ref C) c=some (some (.ref f)))(b:PySem.W.isFn K (.ref f)=true)(d:e c=none)(h:Q (.ref f,[.ref x]) s):wpAny (model prog w) A (getMethod (.ref x) c pl) Q E s:=by obtain⟨g,J,i⟩:=I.look;exact PySem.W.method_fn X J (PySem.W.plainGet_of hg).1 (PySem.W.plainGet_of hg).2 a (beq_iff_eq.mp b) (by show(PySem.W.lookIn c g).map (·.isSome)=some false;rw[i,d];rfl) h
def ik(X:K.In s.heap)(I:CV s.heap x dx C e)(n:PySem.W.findIn K (.ref C) "__setattr__"=some (some (.builtin "object.__setattr__")))(o:PySem.W.plainOver K C=true)(p:PySem.W.takerIn K C c=some none)(hh:PySem.W.hasDictIn K C=true)(q:PySem.Within e ns)(t:ns.length<=sizeLine)(h:∀h',CV h' x dx C (λy=>if y=c then some v else e y)->Heap.SameBut dx s.heap h'->Q () {s with heap:=h',toks:=s.toks+2}):wpAny (model prog w) A (setAttr (.ref x) c v) Q E s:=by obtain⟨B,J,D⟩:=I.look;refine PySem.W.set_plain X J n (PySem.W.osa_open (s:={s with toks:=s.toks+1}) (r:=none) X J o p λb=>?_);obtain⟨cd,hc,i⟩:=PySem.W.any_some hh;have m:s.heap.get? x=some ⟨.ref C,some dx,.plain,#[]⟩:=I.obj;refine a_ (e_ (a_ (a_ (wpAny_loadPart m (a_ (PySem.W.Looks.here (s:={s with toks:=s.toks+1}) (PySem.W.looks_clsIn X hc) ?_))))));rw[i];refine e_ (a:=some dx) (a_ (e_ (a_ ?_)));refine wpAny_nsSet1 (s:={s with toks:=s.toks+1}) I.ns λh' d g=>?_;obtain⟨F,u,z,j,k,l⟩:=d.count (PySem.Within.cons c v q);refine a_ (wpAny_lookBehind j (by rw[k];exact pastItsLine_dict (mu l (by rw[oi];lia))) ?_);exact e_ (h _ ⟨(g.2 _ (o_ I.ne)).trans I.obj,d,I.ne⟩ g)
def GL(X:K.In s.heap)(hm:PySem.W.makesIn K C=true)(hi:PySem.W.findIn K (.ref C) "__init__"=some (some (.ref f)))(i:PySem.W.typeIn K (.ref f)=some (.type "function"))(h:codeAny (model prog w) (A.under (.builtin "type.__call__" ⟨.ref C::a,b⟩)) (.call (.ref f) ⟨.ref (s.heap.objs.size+1)::a,b⟩) (PySem.W.InitBack (s.heap.objs.size+1) R) {s with heap:=(s.heap.push PySem.W.emptyDict).push (PySem.W.instObj C s.heap.objs.size)}):codeAny (model prog w) A (.call (.ref C) ⟨a,b⟩) R s:=by obtain⟨hh,g,d,t,os⟩:=s;exact PySem.W.make_core (PySem.W.makes_of X hm) (PySem.W.looks_findIn X hi) (λself=>PySem.W.bind_fn X self i) (.inl rfl) h
end
def eL(f:Str)(v:V):List (Str×V)->List (Str×V)|[]=>[(f,v)]|(g,x)::r=>if g=f then(g,v)::r else(g,x)::eL f v r
theorem sM(f g:Str)(v:V):∀fs:List (Str×V),(eL f v fs).lookup g=if g=f then some v else fs.lookup g
 |[]=>by
  show List.lookup g [(f,v)]=_
  by_cases h:g=f
  ·have a:(g==f)=true:=beq_iff_eq.mpr h;simp only[List.lookup,a,i_ h]
  ·have a:(g==f)=false:=I_.mpr h;simp only[List.lookup,a,ir h]|(k,x)::r=>by
  have c:=sM f g v r;rw[show eL f v ((k,x)::r)=(if k=f then(k,v)::r else(k,x)::eL f v r)from rfl]
  by_cases b:k=f
  ·rw[i_ b]
   by_cases h:g=k
   ·have a:(g==k)=true:=beq_iff_eq.mpr h;simp only[List.lookup,a,i_ (h.trans b)]
   ·have a:(g==k)=false:=I_.mpr h;simp only[List.lookup,a,ir (λe:g=f=>h (e.trans b.symm))]
  ·rw[ir b]
   by_cases h:g=k
   ·have a:(g==k)=true:=beq_iff_eq.mpr h;simp only[List.lookup,a,ir (λe:g=f=>b (h.symm.trans e))]
   ·have a:(g==k)=false:=I_.mpr h;simp only[List.lookup,a];exact c
theorem rN(f:Str)(v:V):∀fs:List (Str×V),f∈(eL f v fs).map (·.1)/\∀g,g∈fs.map (·.1)->g∈(eL f v fs).map (·.1)
 |[]=>⟨by simp[eL],λg h=>by simp at h⟩|(k,x)::r=>by
  obtain⟨b,c⟩:=rN f v r;rw[show eL f v ((k,x)::r)=(if k=f then(k,v)::r else(k,x)::eL f v r)from rfl]
  by_cases a:k=f
  ·rw[i_ a];subst a;exact⟨by simp,λg h=>by simpa using h⟩
  ·rw[ir a];refine⟨?_,λg h=>?_⟩
   ·rw[np];exact kw _ b
   ·rw[np]at h⊢;rcases pv.mp h with e|e
    ·exact pv.mpr (.inl e)
    ·exact kw _ (c g e)
theorem sN(f:Str)(v:V):∀fs:List (Str×V),(eL f v fs).length<=fs.length+1
 |[]=>by simp[eL]|(k,x)::r=>by
  have b:=sN f v r;rw[show eL f v ((k,x)::r)=(if k=f then(k,v)::r else(k,x)::eL f v r)from rfl]
  by_cases a:k=f
  ·rw[i_ a,oi,oi];lia
  ·rw[ir a,oi,oi];lia
def lc.some_of(r:lc (some v) o):∃u,o=some u/\aV v u:=by cases o with|none=>exact(show False from r).elim|some u=>exact⟨u,rfl,r⟩
def lc.none_of(r:lc none o):o=none:=by cases o with|none=>rfl|some u=>exact(show False from r).elim
def EJ(r:aV v u):PySem.W.handedIn u=true:=by cases v with|non=>cases(show u=Value.none from r);rfl|bl b=>cases(show u=Value.bool b from r);rfl|int i=>obtain⟨t,e⟩:=(show∃t,u=Value.int i t from r);cases e;rfl|str x=>obtain⟨t,e⟩:=(show∃t,u=Value.str x t from r);cases e;rfl|byt b=>obtain⟨t,e⟩:=(show∃t,u=Value.bytes b t from r);cases e;rfl|flt b=>obtain⟨t,e⟩:=(show∃t,u=Value.float b t from r);cases e;rfl|ref a=>cases(show u=Value.ref a from r);rfl|ty n=>cases(show u=Value.type n from r);rfl
section
variable{P:RH}{w:World}{H c:Hp}{h h':Heap}{a C dx:Addr}{fs b:List (Str×V)}
def t9(hok:me P w H h)(e:H a=some (.ins C dx fs)):∃g,CV h a dx C g/\(∀f,lc (fs.lookup f) (g f))/\PySem.Within g (fs.map (·.1))/\fs.length<=1000/\H dx=some (.own a):=by obtain⟨d,z,ne,ob,g,n,r,q⟩:=(show c5 P w H h a (.ins C dx fs)from hok a _ e);exact⟨g,⟨ob,n,ne⟩,r,q,z,d⟩
end
structure zK(K:RC)(C:Addr):Prop where
 pg:PySem.W.plainGet K C Str.empty=true
 hd:PySem.W.hasDictIn K C=true
 po:PySem.W.plainOver K C=true
 sa:PySem.W.findIn K (.ref C) "__setattr__"=some (some (.builtin "object.__setattr__"))
def zK.get{K:RC}{C:Addr}(c:zK K C)(f:Str):PySem.W.plainGet K C f=true:=c.pg
def aU(K:RC)(C:Addr)(f:Str):Prop:=PySem.W.findIn K (.ref C) f=some none
def aU.taker{K:RC}{C:Addr}{f:Str}(n:aU K C f):PySem.W.takerIn K C f=some none:=by unfold PySem.W.takerIn;rw[show PySem.W.findIn K (.ref C) f=some none from n];rfl
structure Io(K:RC)(C:Addr)(m:Str)(f:Addr):Prop where
 at_:PySem.W.findIn K (.ref C) m=some (some (.ref f))fn:PySem.W.isFn K (.ref f)=true
 kp:PySem.W.keepIn K (.ref f)=true
section
variable{X:Cx}{d:RE}{i:St}{H:Hp}{s:Shared}{a C dx:Addr}{fs:List (Str×V)}{f:Str}{v:V}{A:Around}{E:RD}
def CD(I:aL X d i H s)(e:H a=some (.ins C dx fs))(c:zK X.K C)(n:aU X.K C f)(l:fs.lookup f=some v)(h:∀u g,aL X d i H g->aV v u->Q u g):wpAny (model X.prog X.w) A (getAttr (.ref a) f b) Q E s:=by obtain⟨j,O,r,_,_,_⟩:=t9 I.hok e;obtain⟨u,k,ru⟩:=lc.some_of (v:=v) (o:=j f) (by rw[<-l];exact r f);exact Ka I.kIn O (c.get f) c.hd n k (EJ ru) (h u _ (I.tok _) ru)
def oN(I:aL X d i H s)(e:H a=some (.ins C dx fs))(c:zK X.K C)(k:Io X.K C m g)(l:fs.lookup m=none)(h:Q (.ref g,[.ref a]) s):wpAny (model X.prog X.w) A (getMethod (.ref a) m pl) Q E s:=by obtain⟨b,O,r,_,_,_⟩:=t9 I.hok e;have hn:b m=none:=lc.none_of (by rw[<-l];exact r m);exact Hi I.kIn O (c.get m) k.at_ k.fn hn h
def BK(I:aL X d i H s)(e:H a=some (.ins C dx fs))(c:zK X.K C)(n:aU X.K C f)(J:fs.length<1000)(t:aV y u)(h:∀l,aL X d i (az H a (.ins C dx (eL f y fs))) l->Q () l):wpAny (model X.prog X.w) A (setAttr (.ref a) f u) Q E s:=by
 obtain⟨k,O,r,m,_,p⟩:=t9 I.hok e;have B:(fs.map (·.1)).length<=sizeLine:=by rw[c_,j1];lia
 refine ik I.kIn O c.sa c.po n.taker c.hd m B λh' j D=>h _ ?_;have hd:∃o,h'.get? dx=some o:=let⟨o,_,_,F,_⟩:=j.ns;⟨o,F⟩;refine I.write (x:=a) (e:=dx) (by rw[e];exact True.intro) (.inr p) (λb q G z=>(D.2 b G).trans z) hd ?_;refine⟨by rw[am O.ne];exact p,?_,O.ne,j.obj,_,j.ns,λg=>?_,λg hg=>?_⟩
 ·have:=sN f y fs;lia
 ·show lc ((eL f y fs).lookup g) (if g=f then some u else k g);rw[sM]
  by_cases q:g=f
  ·rw[i_ q,i_ q];exact t
  ·rw[ir q,ir q];exact r g
 ·by_cases q:g=f
  ·rw[q];exact(rN f y fs).1
  ·refine(rN f y fs).2 g (m g λz=>hg ?_);show(if g=f then some u else k g)=none;rw[ir q];exact z
def aL.made(I:aL X d i H s):aL X d i (az (az H s.heap.objs.size (.own (s.heap.objs.size+1))) (s.heap.objs.size+1) (.ins C s.heap.objs.size [])) {s with heap:=(s.heap.push PySem.W.emptyDict).push (PySem.W.instObj C s.heap.objs.size)}:=by
 have c:(s.heap.push PySem.W.emptyDict).get? s.heap.objs.size=some PySem.W.emptyDict:=g_ s.heap rfl;have g:((s.heap.push PySem.W.emptyDict).push (PySem.W.instObj C s.heap.objs.size)).get? (s.heap.objs.size+1)=some (PySem.W.instObj C s.heap.objs.size):=by
  have:=g_ (s.heap.push PySem.W.emptyDict) (o:=PySem.W.instObj C s.heap.objs.size) rfl
  rwa[n_]at this
 have h:(s.heap.push PySem.W.emptyDict).Ns s.heap.objs.size (λ_=>none):=⟨PySem.W.emptyDict,#[],_,c,rfl,(λe j=>absurd j (by simp)),λ_=>rfl⟩;have I1:=I.laid (a:=s.heap.objs.size) (o:=.own (s.heap.objs.size+1)) (h':=s.heap.push PySem.W.emptyDict) (t':=s.toks) (λb u q=>b_ _ q) (f_ _) ⟨_,c⟩;refine I1.laid (a:=s.heap.objs.size+1) (o:=.ins C s.heap.objs.size []) (t':=s.toks) (λb u q=>b_ _ q) (PL (n_ _ _)) ?_;have ne:s.heap.objs.size≠s.heap.objs.size+1:=k4 (rx _);refine⟨by rw[am ne,O],m_ _,ne,g,λ_=>none,(Heap.Ns1.of_empty h).at λo q=>b_ _ q,λ_=>True.intro,λy l=>absurd rfl l⟩
def Kq(b:attributeBase e f env (eval e env)=eval e env)(h:wpAny (model prog w) A (eval e env) (λo s₁=>wpAny (model prog w) A (getAttr o f true) Q E s₁) E s):wpAny (model prog w) A (eval (.Attribute e f c) env) Q E s:=Attribute_any_ h (by rw[arm_eval_Attribute,b])
end
def NK(K:RC)(c:TE)(f:Str):TE:=λd H Q=>c d H λx b=>∃a C dx fs v,x=.ref a/\b a=some (.ins C dx fs)/\zK K C/\aU K C f/\fs.lookup f=some v/\Q v b
def NV(K:RC)(d e:TE)(f:Str):TS:=λD b H=>e b H λy g=>d b g λx c=>∃a C dx fs,x=.ref a/\c a=some (.ins C dx fs)/\zK K C/\aU K C f/\fs.length<1000/\D.nx b (az c a (.ins C dx (eL f y fs)))
section
variable{X:Cx}{o e b:Expr}{f:Str}{g d p:Pos}{i j:TE}
def L5(r:PE X e i)(t:attributeBase e f X.env (eval e X.env)=eval e X.env):PE X (.Attribute e f g) (NK X.K i f):=by intro k s m H Q I h;refine Kq t (cy (r k s m H _ I h) λu B⟨x,w,I1,y,a,C,dx,fs,v,ex,z,c,n,l,q⟩=>?_);subst ex;obtain rfl:u=Value.ref a:=y;exact CD I1 z c n l λD E A ru=>⟨v,w,A,ru,q⟩
def LZ(r:PE X o i)(t:PE X b j)(v:swapsWith b (some (.Attribute o f d)) g.line X.env=pure false):PS X (.Assign [.Attribute o f d] b g) (NV X.K i j f):=by intro k s m H D I h;refine plainObj_wpAny_Assign_Attribute (cy (t k s m H _ I h) λu w⟨y,z,I1,A,q⟩=>cy (r k w m z _ I1 q) λB M⟨x,N,E,F,a,C,dx,fs,ex,G,c,n,l,J⟩=>?_) v;subst ex;obtain rfl:B=Value.ref a:=F;exact BK E G c n l A λO L=>⟨m,_,L,J⟩
end
section
variable{X:Cx}{d:RE}{f:St}{H:Hp}{s:Shared}{A:Around}{E:RD}{Q:RD}{c:Value}{b:Bool}
inductive nH(K:RC)(H:Hp):V->Value->Prop where|non:nH K H .non (.type "NoneType")|bl(x:Bool):nH K H (.bl x) (.type "bool")|int(i:Int):nH K H (.int i) (.type "int")|str(x:Str):nH K H (.str x) (.type "str")|flt(x:UInt64):nH K H (.flt x) (.type "float")|lst{a:Addr}{xs:List V}(e:H a=some (.lst xs)):nH K H (.ref a) (.type "list")|frz{a:Addr}{o:Obj}{xs:List V}(e:H a=some (.frz o (.lst xs))):nH K H (.ref a) (.type "list")|tup{a:Addr}{xs:List V}(e:H a=some (.tup xs)):nH K H (.ref a) (.type "tuple")|dK{a:Addr}{kvs:List (bL×V)}(e:H a=some (.dK kvs)):nH K H (.ref a) (.type "dict")|dT{a:Addr}{kvs:List (List bL×V)}(e:H a=some (.dT kvs)):nH K H (.ref a) (.type "dict")|ins{a C dx:Addr}{fs:List (Str×V)}(e:H a=some (.ins C dx fs))(cl:zK K C)(ha:PySem.W.findIn K (.ref C) "__class__"=some (some (.builtin "object.__class__")))(hn:PySem.W.specialIn K (.builtin "object.__class__") "__get__"=some (some (.builtin "getset_descriptor.__get__")))(htk:PySem.W.takesIn K (.builtin "object.__class__")=some true)(hm:PySem.W.mroIn K C (.type "object")=some true):nH K H (.ref a) (.ref C)
def EG(I:aL X d f H s)(g:aV x u)(ty:nH X.K H x t)(e:PySem.W.kitOne X.K t c=some b)(h:∀tk,Q (.bool b) {s with toks:=tk}):wpAny (model X.prog X.w) A (call (.builtin "isinstance") [u,c]) Q E s:=by cases ty with|non=>cases(show u=Value.none from g);exact PySem.W.kia_one PySem.W.kitx_none I.kIn True.intro e (nofun) h|bl y=>cases(show u=Value.bool y from g);exact PySem.W.kia_one PySem.W.kitx_bool I.kIn True.intro e (nofun) h|int i=>obtain⟨t,q⟩:=(show∃t,u=Value.int i t from g);cases q;exact PySem.W.kia_one PySem.W.kitx_int I.kIn True.intro e (nofun) h|str y=>obtain⟨t,q⟩:=(show∃t,u=Value.str y t from g);cases q;exact PySem.W.kia_one PySem.W.kitx_str I.kIn True.intro e (nofun) h|flt y=>obtain⟨t,q⟩:=(show∃t,u=Value.float y t from g);cases q;exact PySem.W.kia_one PySem.W.kitx_float I.kIn True.intro e (nofun) h|@lst a l j=>cases(show u=Value.ref a from g);obtain⟨_,_,n,_,h1⟩:=(show c5 X.prog X.w H s.heap a (.lst l)from I.hok a _ j);exact PySem.W.kia_one PySem.W.kitx_list I.kIn ⟨_,h1,rfl⟩ e (nofun) h|@frz a ob l j=>cases(show u=Value.ref a from g);obtain⟨_,_,_,n,_,h1⟩:=(show c5 X.prog X.w H s.heap a (.frz ob (.lst l))from I.hok a _ j);exact PySem.W.kia_one PySem.W.kitx_list I.kIn ⟨_,h1,rfl⟩ e (nofun) h|@tup a l j=>cases(show u=Value.ref a from g);obtain⟨_,_,_,p⟩:=(show c5 X.prog X.w H s.heap a (.tup l)from I.hok a _ j);obtain⟨o,h1,h2,_⟩:=p;exact PySem.W.kia_one PySem.W.kitx_tuple I.kIn ⟨o,h1,h2⟩ e (nofun) h|@dK a k j=>cases(show u=Value.ref a from g);obtain⟨_,_,D,_,p⟩:=(show c5 X.prog X.w H s.heap a (.dK k)from I.hok a _ j);obtain⟨o,r,v,h1,h2,_⟩:=p;exact PySem.W.kia_one PySem.W.kitx_dict I.kIn ⟨o,h1,h2.1⟩ e (nofun) h|@dT a k j=>cases(show u=Value.ref a from g);obtain⟨_,_,l,_,o,r,v,h1,h2,_⟩:=(show c5 X.prog X.w H s.heap a (.dT k)from I.hok a _ j);exact PySem.W.kia_one PySem.W.kitx_dict I.kIn ⟨o,h1,h2.1⟩ e (nofun) h|@ins a C dx fs j cl B hn m hm=>cases(show u=Value.ref a from g);obtain⟨F,O,_⟩:=t9 I.hok j;obtain⟨G,J,_⟩:=O.look;exact PySem.W.kia_one (PySem.W.kitx_own (cl.get _) cl.hd B hn m hm) I.kIn J e (nofun) h
end
end L2
namespace L2
open PySem PySem.Spec PyProof.Rows
structure eK(k:Nat)(A:Around):Prop where
 hd:A.handled=none
 dp:A.depth+3*k+5<recursionLimit
 un:A.units+16*k+200<cLine
def eK.mono{j k:Nat}{A:Around}(r:eK k A)(h:j<=k):eK j A:=⟨r.hd,by have:=r.dp;lia,by have:=r.un;lia⟩
theorem eK.deeper(r:eK (k+1) A)(env:Env):eK k (A.deeper env):=⟨r.hd,by have:=r.dp;show A.depth+1+3*k+5<_;lia,by have:=r.un;show A.units+3+16*k+200<_;lia⟩
def Ce{A:Around}{C:Addr}{a:RG}{b:List (Str×Value)}:(A.under (.builtin "type.__call__" ⟨.ref C::a,b⟩)).depth=A.depth+1:=by first|rfl|simp[Around.under,Code.weight,Code.isCreation,Code.isGuard,Code.isCaller,Code.frames,Code.isFrame,guardIds]
def Cd{A:Around}{C:Addr}{a:RG}{b:List (Str×Value)}:(A.under (.builtin "type.__call__" ⟨.ref C::a,b⟩)).units=A.units+1:=by first|rfl|simp[Around.under,Code.cUnits,Code.frames,Code.isFrame]
def eK.make(r:eK (k+1) A)(C:Addr)(a:RG)(b:List (Str×Value)):eK k (A.under (.builtin "type.__call__" ⟨.ref C::a,b⟩)):=⟨r.hd,by have:=r.dp;rw[Ce];lia,by have:=r.un;rw[Cd];lia⟩
theorem eK.depth{k:Nat}{A:Around}(r:eK k A):A.depth<recursionLimit:=by have:=r.dp;lia
theorem eK.units{k:Nat}{A:Around}(r:eK k A):A.units+64<cLine:=by have:=r.un;lia
def NH:TA:=λ_ H Q=>Q [] H
def NN(b:TE)(tr:TA):TA:=λa H Q=>b a H λx c=>tr a c λd e=>Q (x::d) e
section
variable{X:Cx}{e:Expr}{c:RJ}{te:TE}{t:TA}{a:Pos}
def ae:PA X [] NH:=λ_ _ _ _ H Q I h=>z3 ⟨[],H,I,.nil,h⟩
def ac(f:PE X e te)(g:PA X c t)(i:starEach (e::c) X.env=(false,eval e X.env)::starEach c X.env:=by rfl):PA X (e::c) (NN te t):=by intro a b s d H Q I h;rw[i];show wpAny _ _ (spliced ((false,eval e X.env)::backTo a (starEach c X.env))) _ _ s;refine sm (cy (f b s d H _ I h) λu j⟨x,k,I1,l,m⟩=>?_);exact cy (g a b j d k _ I1 m) λr v⟨n,o,p,r2,q⟩=>⟨x::n,o,p,.cons l r2,q⟩
def O0(t:TA):TE:=λf H Q=>t f H λb d=>b.length<=sizeLine/\∀p,d p=none->Q (.ref p) (az d p (.tup b))
def O3(t:TA):TE:=λf H Q=>t f H λb d=>b.length<=sizeLine/\∀p,d p=none->Q (.ref p) (az d p (.lst b))
def bF{i}(h:PA X c t):PE X (.Tuple c i a) (O0 t):=by intro d s j H Q I k;refine wpAny_Tuple_spliced (cy (h a d s j H _ I k) λl f⟨m,g,I1,r,z,q⟩=>⟨by rw[<-r.length];exact z,?_⟩);have n:g f.heap.objs.size=none:=I1.hok.fresh (f_ _);refine⟨.ref f.heap.objs.size,az g f.heap.objs.size (.tup m),I1.laid (t':=f.toks) (λb u e=>b_ _ e) (f_ _) ?_,rfl,q _ n⟩;exact⟨z,l,r,⟨_,g_ _ rfl,rfl,_,rfl⟩⟩
def bg(h:PA X c t):PE X (.List c a) (O3 t):=by intro d s i H Q I j;refine wpAny_List_spliced (cy (h a d s i H _ I j) λk f⟨l,g,I1,r,z,q⟩=>⟨by rw[<-r.length];exact z,?_⟩);have m:g f.heap.objs.size=none:=I1.hok.fresh (f_ _);refine⟨.ref f.heap.objs.size,az g f.heap.objs.size (.lst l),I1.laid (t':=f.toks) (λb u e=>b_ _ e) (f_ _) ?_,rfl,q _ m⟩;exact⟨z,k,0,r,g_ _ rfl⟩
end
abbrev Sp:=List V->Hp->VK->XK->Prop
abbrev BB:=List Env->Hp->Shared->XK->Value->Shared->Prop
structure CY(P:RH)(w:World)(K:RC)(mg:RF)(base:Heap)(A:Around)(outer:List Env)(s:Shared)(H:Hp):Prop where
 frames:A.frames=some outer
 mod:OF K mg base
 bs:∀b o,base.get? b=some o->s.heap.get? b=some o/\H b=none
 bsz:base.objs.size<=s.heap.objs.size
 funs:s.heap.FunFrames base outer
 frf:∀b∈kE outer,H b=none
 hok:me P w H s.heap
 bare:AllBare s.gens
def CE(outer:List Env)(P:RH)(w:World)(H:Hp)(s:Shared)(Q:VK)(u:Value)(a:Shared):Prop:=∃v b,a.os=s.os/\AllBare a.gens/\Un (kE outer) [] H b s.heap a.heap/\me P w b a.heap/\aV v u/\Q v b
def CR(b:BB)(outer:List Env)(P:RH)(w:World)(H:Hp)(s:Shared)(Q:VK)(E:XK)(r:Result)(a:Shared):Prop:=match r with|.ok (.ret u)=>CE outer P w H s Q u a|.ok _=>False|.error e=>b outer H s E e a
structure aP(P:RH)(w:World)(K:RC)(mg:RF)(base:Heap)(CX:BB)(k:Nat)(f:Addr)(fd:FuncData)(ps:RI)(sp:Sp):Prop where
 len:∀vs H Q E,sp vs H Q E->vs.length=ps.length
 run:∀(A:Around)(outer:List Env)(s:Shared)(H:Hp)(args:Args)(us:RG)(vs:List V)(Q:VK)(E:XK),eK k A->CY P w K mg base A outer s H->BindsTo s fd args (ps.zip us)->aY vs us->sp vs H Q E->codeAny (model P w) A (.call (.ref f) args) (CR CX outer P w H s Q E) s
theorem aP.mono{P:RH}{w:World}{K:RC}{mg:RF}{base:Heap}{b:BB}{j k:Nat}{f:Addr}{fd:FuncData}{c:RI}{sp:Sp}(F:aP P w K mg base b j f fd c sp)(h:j<=k):aP P w K mg base b k f fd c sp:=⟨F.len,λA outer s H a d e Q E g=>F.run A outer s H a d e Q E (g.mono h)⟩
def CY.make{P:RH}{w:World}{K:RC}{mg:RF}{base:Heap}{A:Around}{outer:List Env}{s:Shared}{H:Hp}(e:CY P w K mg base A outer s H)(C:Addr)(a:RG)(b:List (Str×Value)):CY P w K mg base (A.under (.builtin "type.__call__" ⟨.ref C::a,b⟩)) outer s H:=⟨by first|exact e.frames|(simpa[Around.under,Code.envs,Code.isFrame,pushEnvs]using e.frames),e.mod,e.bs,e.bsz,e.funs,e.frf,e.hok,e.bare⟩
section
variable{X:Cx}{a:RE}{e:St}{H:Hp}{s c:Shared}
def aL.env0(I:aL X a e H s):CY X.prog X.w X.K X.mg X.base X.A X.stack s H:=⟨I.ok.frames,I.ok.mod,I.bs,mu I.ok.bsz I.sz,I.stack,I.stkFree,I.hok,I.bare⟩
def aL.after(I:aL X a e H s)(h:CE X.stack X.prog X.w H s Q u c):EP X a e Q u c:=by obtain⟨v,i,os,bare,un,hok,r,q⟩:=h;obtain⟨hh,g,d,t,f⟩:=c;obtain rfl:f=s.os:=os;exact⟨v,i,I.call (h':=hh) (g':=g) (d':=d) (t':=t) (ch:=[]) un hok bare (λb z=>absurd z (by simp)),r,q⟩
end
def KM(sp:Sp)(a:List V)(E:XK)(t:TA):TE:=λb H Q=>t b H λc d=>sp (c++a) d Q E
def Fx(C:Addr)(m:Str)(sp:Sp)(b:List V)(E:XK)(e:TE)(t:TA):TE:=λc H Q=>e c H λx d=>∃a dx fs,x=.ref a/\d a=some (.ins C dx fs)/\fs.lookup m=none/\t c d λf g=>sp (x::(f++b)) g Q E
def NI(C:Addr)(sp:Sp)(a:List V)(E:XK)(t:TA):TE:=λc H Q=>t c H λd b=>∀x dx,b x=none->b dx=none->dx≠x->sp (.ref x::(d++a)) (az (az b dx (.own x)) x (.ins C dx [])) (λv e=>v=.non/\Q (.ref x) e) E
def gz(K:RC)(fd:FuncData)(b:RI)(ds:RG):Prop:=∀(s:Shared)(a:RG),K.In s.heap->(a++ds).length=b.length->BindsTo s fd ⟨a,[]⟩ (b.zip (a++ds))
def gz.all{K:RC}{fd:FuncData}{b:RI}(h:∀a:List Value,a.length=b.length->bindArgs fd ⟨a,[]⟩=pure (b.zip a)):gz K fd b []:=λs a _ c=>by rw[rr]at c⊢;exact .of_eq (h a c)
def lR(c:BB)(X:Cx)(E:XK):Prop:=∀(a:RE)(d:St)(H:Hp)(s:Shared)(e:Value)(b:Shared),aL X a d H s->c X.stack H s E e b->X.xe e b
section
variable{X:Cx}{n:BB}{k:Nat}{f C:Addr}{fd:FuncData}{j:RI}{sp:Sp}{d:List V}{ds:RG}{E:XK}{x m:Str}{p b g:Pos}{e o:Expr}{i:RJ}{y:TE}{t:TA}
def BP(F:aP X.prog X.w X.K X.mg X.base n k f fd j sp)(q:eK k X.A)(v:gz X.K fd j ds)(hd:aY d ds)(z:lR n X E)(I:aL X a l H s)(r:aY vs us)(h:sp (vs++d) H Q E):wpAny (model X.prog X.w) X.A (call (.ref f) us) (EP X a l Q) X.xe s:=by
 have r2:aY (vs++d) (us++ds):=r.append hd;have B:(us++ds).length=j.length:=by rw[<-r2.length];exact F.len _ _ _ _ h
 refine QE (t0 (F.run X.A X.stack s H ⟨us,[]⟩ (us++ds) (vs++d) Q E q I.env0 (v s us I.kIn B) r2 h) λr D c=>?_);cases r with|error e=>exact z a l H s e D I c|ok G=>cases G with|ret u=>exact I.after c|next=>exact False.elim c|brk=>exact False.elim c|cont=>exact False.elim c
def bP(F:aP X.prog X.w X.K X.mg X.base n k f fd j sp)(v:eK k X.A)(hg:Gl X x)(hm:X.mg x=some (.ref f))(z:PySem.W.keepIn X.K (.ref f)=true)(B:gz X.K fd j ds)(hd:aY d ds)(D:lR n X E)(G:PA X (e::i) t)(c:(x==("__debug__":Str))=false:=by decide)(J:starEach (e::i) X.env=(false,eval e X.env)::starEach i X.env:=by rfl)(l:(backTo b (starEach i X.env)).any (·.1)=false:=by rfl):PE X (.Call (.Name x p) (e::i) [] b) (KM sp d E t):=by intro a s L H Q I h;refine wr (m9 I hg hm ?_ c);refine PySem.W.callWith_K (h₀:=X.base) I.ok.mod.kin z (cy (G b a s L H _ I h) λM N⟨O,P,I1,r,q⟩=>⟨I1.kIn,?_⟩) J l;exact BP F v B hd D I1 r q
def bw(P:PE X o y)(c:zK X.K C)(hm:Io X.K C m f)(F:aP X.prog X.w X.K X.mg X.base n k f fd j sp)(R:eK k X.A)(S:gz X.K fd j ds)(hd:aY d ds)(T:lR n X E)(Z:PA X (e::i) t)(z:starEach (e::i) X.env=(false,eval e X.env)::starEach i X.env:=by rfl)(B:(backTo b (starEach i X.env)).any (·.1)=false:=by rfl)(ht:eval (.Call (.Attribute o m g) (e::i) [] b) X.env=(do
   let D<-eval o X.env
   standAt g.atName let(f,first)<-holding [D] (getMethod D m pl)callWith b f first (backTo b (starEach (e::i) X.env)) (backToKw b (keywordEach [] X.env))):=by rfl):PE X (.Call (.Attribute o m g) (e::i) [] b) (Fx C m sp d E y t):=by intro v s G H Q I h;refine PySem.W.methodCall_KW (pl:=pl) (cy (P v s G H _ I h) λu O⟨x,U,I1,Y,a,dx,fs,ex,ea,l,q⟩=>?_) ht;subst ex;obtain rfl:u=Value.ref a:=Y;refine oN I1 ea c hm l ?_;refine PySem.W.callWith_K (first:=[.ref a]) (h₀:=X.base) I.ok.mod.kin hm.kp (cy (Z b v O G U _ I1 q) λL s2⟨M,H2,N,r,q2⟩=>⟨N.kIn,?_⟩) z B;exact BP (us:=.ref a::L) (vs:=.ref a::M) F R S hd T N (.cons rfl r) q2
def Ap(z:PE X o y)(c:zK X.K C)(hm:Io X.K C m f)(F:aP X.prog X.w X.K X.mg X.base n k f fd j sp)(B:eK k X.A)(D:gz X.K fd j ds)(hd:aY d ds)(G:lR n X E)(J:eval (.Call (.Attribute o m g) [] [] b) X.env=(do
   let v<-eval o X.env
   standAt g.atName let(f,first)<-holding [v] (getMethod v m pl)callWith b f first (backTo b (starEach [] X.env)) (backToKw b (keywordEach [] X.env))):=by rfl):PE X (.Call (.Attribute o m g) [] [] b) (Fx C m sp d E y NH):=by intro r s L H Q I h;refine PySem.W.methodCall_KW (pl:=pl) (cy (z r s L H _ I h) λu O⟨x,P,I1,M,a,dx,fs,ex,N,l,q⟩=>?_) J;subst ex;obtain rfl:u=Value.ref a:=M;refine oN I1 N c hm l ?_;exact PySem.W.callWith_K0 (first:=[.ref a]) I1.kIn hm.kp (BP (us:=[.ref a]) (vs:=[.ref a]) F B D hd G I1 (.cons rfl .nil) q)
structure Mk(K:RC)(C f:Addr):Prop where
 makes:PySem.W.makesIn K C=true
 init:PySem.W.findIn K (.ref C) "__init__"=some (some (.ref f))fn:PySem.W.isFn K (.ref f)=true
 kp:PySem.W.keepIn K (.ref C)=true
def F4(M:Mk X.K C f)(F:aP X.prog X.w X.K X.mg X.base n k f fd j sp)(G:eK (k+1) X.A)(J:gz X.K fd j ds)(hd:aY d ds)(L:lR n X E)(I:aL X c z H s)(r:aY B l)(h:∀x dx,H x=none->H dx=none->dx≠x->sp (.ref x::(B++d)) (az (az H dx (.own x)) x (.ins C dx [])) (λv N=>v=.non/\Q (.ref x) N) E):wpAny (model X.prog X.w) X.A (call (.ref C) l) (EP X c z Q) X.xe s:=by
 have D:=h (s.heap.objs.size+1) s.heap.objs.size (I.hok.fresh (rk _)) (I.hok.fresh (f_ _)) (k4 (rx _));have q:=aL.made (C:=C) I;have r2:aY (V.ref (s.heap.objs.size+1)::(B++d)) (Value.ref (s.heap.objs.size+1)::(l++ds)):=.cons rfl (r.append hd);have O:(Value.ref (s.heap.objs.size+1)::l++ds).length=j.length:=by have e:=r2.length;rw[F.len _ _ _ _ D]at e;exact e.symm
 refine QE (GL (f:=f) I.kIn M.makes M.init (beq_iff_eq.mp M.fn) (t0 (F.run _ X.stack _ _ ⟨Value.ref (s.heap.objs.size+1)::l,[]⟩ (Value.ref (s.heap.objs.size+1)::(l++ds)) _ _ E (G.make C l []) (q.env0.make C l []) (J _ (Value.ref (s.heap.objs.size+1)::l) q.kIn O) r2 D) λr P a=>?_))
 cases r with|error e=>exact L c z _ _ e P q a|ok R=>cases R with|ret u=>obtain⟨v,S,T,U,W,Y⟩:=q.after a;subst W;exact⟨U,⟨V.ref (s.heap.objs.size+1),S,T,rfl,Y⟩⟩|next=>exact False.elim a|brk=>exact False.elim a|cont=>exact False.elim a
def t7(M:Mk X.K C f)(F:aP X.prog X.w X.K X.mg X.base n k f fd j sp)(v:eK (k+1) X.A)(hg:Gl X x)(hm:X.mg x=some (.ref C))(z:gz X.K fd j ds)(hd:aY d ds)(B:lR n X E)(D:PA X (e::i) t)(c:(x==("__debug__":Str))=false:=by decide)(G:starEach (e::i) X.env=(false,eval e X.env)::starEach i X.env:=by rfl)(l:(backTo b (starEach i X.env)).any (·.1)=false:=by rfl):PE X (.Call (.Name x p) (e::i) [] b) (NI C sp d E t):=by intro a s J H Q I h;refine wr (m9 I hg hm ?_ c);refine PySem.W.callWith_K (h₀:=X.base) I.ok.mod.kin M.kp (cy (D b a s J H _ I h) λL N⟨O,P,I1,r,q⟩=>⟨I1.kIn,?_⟩) G l;exact F4 M F v z hd B I1 r q
end
section
variable{X:Cx}{l:BB}{k:Nat}{f C:Addr}{fd:FuncData}{q j:RI}{sp:Sp}{E:XK}{x m:Str}{p c b a:Pos}{e o:Expr}{h:RJ}{d:List Keyword}{te n:TE}{t tk:TA}{nm:Option Str}
variable{g:List Value->List Value->List Value}{i:List V->List V->List V}
end
structure ay(N P:RI)(sc:Scope):Prop where
 kind:sc.kind=.function
 co:sc.isCoroutine=false
 gen:sc.isGenerator=false
 nd:N.Nodup
 pre:N.take P.length=P
 par:∀x∈P,sc.names.lookup x=some .local\/sc.names.lookup x=some .cell
 nofree:∀y∈sc.names,y.2≠.free
theorem xS{kindOf:Str->Option NameKind}{x:Str}:∀{binds:List (Str×Value)}{m:RF},(∀v,(x,v)∉binds)->bindL kindOf binds m x=m x
 |[],_,_=>rfl|(n,v)::r,m,h=>by
  unfold bindL;rw[xS λw a=>h w (kw _ a)]
  split
  ·have:x≠n:=by rintro rfl;exact h v l_
   simp[this]
  ·rfl
theorem xU{kindOf:Str->Option NameKind}{x:Str}:∀{binds:List (Str×Value)}{m:RF},(∀v,(x,v)∉binds)->bindC kindOf binds m x=m x
 |[],_,_=>rfl|(n,v)::r,m,h=>by
  unfold bindC;rw[xU λw a=>h w (kw _ a)]
  split
  ·rfl
  ·have:x≠n:=by rintro rfl;exact h v l_
   simp[this]
theorem xT{kindOf:Str->Option NameKind}{x:Str}{v:Value}:∀{P:RI}{a:RG}{i:Nat}{m:RF},P.Nodup->P[i]?=some x->a[i]?=some v->kindOf x=some .local->bindL kindOf (P.zip a) m x=some v|[],_,_,_,_,h,_,_=>by simp at h|_::_,[],_,_,_,_,h,_=>by simp at h|p::P,w::a,0,m,nd,h1,h2,b=>by simp at h1 h2;subst h1;subst h2;show bindL kindOf ((p,w)::P.zip a) m p=_;unfold bindL;rw[xS λv c=>(Ry.mp nd).1 (Qc c).1,i_ b];simp|p::P,w::a,i+1,m,nd,h1,h2,b=>by show bindL kindOf ((p,w)::P.zip a) m x=_;unfold bindL;exact xT (i:=i) (Ry.mp nd).2 (by simpa using h1) (by simpa using h2) b
theorem xV{kindOf:Str->Option NameKind}{x:Str}{v:Value}:∀{P:RI}{a:RG}{i:Nat}{m:RF},P.Nodup->P[i]?=some x->a[i]?=some v->kindOf x≠some .local->bindC kindOf (P.zip a) m x=some v|[],_,_,_,_,h,_,_=>by simp at h|_::_,[],_,_,_,_,h,_=>by simp at h|p::P,w::a,0,m,nd,h1,h2,b=>by simp at h1 h2;subst h1;subst h2;show bindC kindOf ((p,w)::P.zip a) m p=_;unfold bindC;rw[xU λv c=>(Ry.mp nd).1 (Qc c).1,ir b];simp|p::P,w::a,i+1,m,nd,h1,h2,b=>by show bindC kindOf ((p,w)::P.zip a) m x=_;unfold bindC;exact xV (i:=i) (Ry.mp nd).2 (by simpa using h1) (by simpa using h2) b
def jp(N:RI)(a:List V):St:=a.map some++List.replicate (N.length-a.length) none
def rT(c:BB)(P:RH)(w:World)(K:RC)(mg:RF)(base:Heap)(N:RI)(a:Str)(scope:Scope)(f:Addr)(cd:Value)(A:Around)(outer:List Env)(s:Shared)(H:Hp)(E:XK):Cx where
 prog:=P
 w:=w
 K:=K
 mg:=mg
 base:=base
 A:=A.deeper (envOfC a scope s.heap.objs.size f cd)
 N:=N
 s₀:=s
 H₀:=H
 env:=envOfC a scope s.heap.objs.size f cd
 outer:=outer
 stack:=envOfC a scope s.heap.objs.size f cd::outer
 ex:=[]
 calm:=true
 fn:=λ_=>true
 pn:=[]
 xe:=λe d=>wpAny (model P w) (A.deeper (envOfC a scope s.heap.objs.size f cd)) (leaving (envOfC a scope s.heap.objs.size f cd) e) (λ_ b=>c outer H s E e b) (λg b=>c outer H s E g b) d
def Bg{a:Scope}{n:Nat}{x:Str}(h:a.names.lookup x=some .cell):∃c,(cellsFrom n a.names []).lookup x=some c:=by have q:=PySem.W.cellsFrom_some a.names n [] (.inl h);exact H_.mp q
def EH{D:BB}{P:RH}{w:World}{K:RC}{mg:RF}{base:Heap}{N j:RI}{d:Str}{scope:Scope}{f:Addr}{cd:Value}{A:Around}{outer:List Env}{s F:Shared}{H:Hp}{E:XK}{C:RG}{l:List V}(S:ay N j scope)(hd:A.handled=none)(g:CY P w K mg base A outer s H)(Q:l.length=j.length)(r:aY l C)(x:InCallC s s.heap.objs.size (bindL (envOfC d scope s.heap.objs.size f cd).kindOf (j.zip C) λ_=>none) (cellsFrom (s.heap.objs.size+1) scope.names []) (bindC (envOfC d scope s.heap.objs.size f cd).kindOf (j.zip C) λ_=>none) F):aL (rT D P w K mg base N d scope f cd A outer s H E) [] (jp N l) H F:=by
 have J:j.length<=N.length:=by have:=tl List.length S.pre;rw[no]at this;lia
 obtain⟨h1,tk,rfl,G⟩:=x.done;have m:∀b:Addr,b∉(rT D P w K mg base N d scope f cd A outer s H E).ex:=λb z=>absurd (show b∈([]:RM)from z) (by simp);refine⟨⟨g.mod,S.kind,rfl,rfl,f_ _,λy z c h1 h2=>?_,λy o=>?_,λy c _ h=>?_,λ_=>hd,Around.frames_deeper g.frames,.inr ⟨rfl,rfl⟩,λb z=>absurd z (m b),g.bs,g.bsz,λb _ _=>m b,λb z=>absurd z (m b),g.funs,g.frf⟩,rfl,g.bare,Un.kept G,⟨_,x.toInCall.ns,λi y v h1 h2 h3=>?_⟩,λy c h=>⟨_,x.cell y c h⟩,g.hok.fresh (f_ _),λy c h=>?_,λp t=>absurd (show p∈([]:RE)from t) (by simp),g.hok.kept G,?_⟩
 ·exact name_of_addr x.apart (PySem.mem_of_lookup h1) (PySem.mem_of_lookup h2)
 ·have o:scope.names.lookup y=some .cell\/scope.names.lookup y=some .free:=o;rcases o with o|o
  ·exact Bg o
  ·exact absurd rfl (S.nofree _ (PySem.mem_of_lookup o))
 ·exact t2 (x.above y c (PySem.mem_of_lookup h))
 ·have hi:i<l.length:=by
   unfold jp at h2
   by_cases hi:i<l.length
   ·exact hi
   ·rw[sg (by simpa using hi)]at h2;rw[List.getElem?_replicate]at h2
    split at h2<;>cases h2
  have L:l[i]?=some v:=by unfold jp at h2;rw[q_ (by simpa using hi),ig]at h2;cases e:l[i]?with|none=>rw[e]at h2;cases h2|some a=>rw[e]at h2;cases h2;rfl
  obtain⟨u,I,M⟩:=r.get L;have t:j[i]?=some y:=by rw[<-S.pre,Qs (by lia)];exact h1
  have B:j.Nodup:=by rw[<-S.pre];exact S.nd.sublist (P3 _ _)
  refine⟨u,M,?_⟩;rcases S.par y (h_ t)with k|k
  ·exact .inl ⟨k,xT B t I k⟩
  ·obtain⟨c,e⟩:=Bg (n:=s.heap.objs.size+1) k;refine .inr ⟨.inl k,c,e,?_⟩;have q:=x.cell y c e;rw[xV B t I (by show scope.names.lookup y≠_;rw[k];decide)]at q;exact q
 ·exact g.hok.fresh (t2 (x.above y c (PySem.mem_of_lookup h)))
 ·unfold jp;show _=N.length;rw[iA,c_,D_];lia
def KU{F:BB}{P:RH}{w:World}{K:RC}{mg:RF}{base:Heap}{k:Nat}{f:Addr}{j a:Str}{d:Arguments}{g:List Stmt}{scope:Scope}{X kV B pm c ct oc:Value}{Z od:Option Addr}{L:Array (Option Value)}{N G:RI}{sp:Sp}(lk:K.lookup f=some ⟨oc,od,.func (PySem.W.fnOf j a d g scope X kV B pm Z c ct),L⟩)(M:PySem.W.codeIn K c a=true)(S:ay N G scope)(len:∀h H Q E,sp h H Q E->h.length=G.length)(p:∀(A:Around)(outer:List Env)(s:Shared)(H:Hp)(h:List V)(Q:VK)(E:XK),eK k (A.deeper (envOfC a scope s.heap.objs.size f c))->sp h H Q E->∃t,xc (rT F P w K mg base N a scope f c A outer s H E) g t/\t {nx:=λ_ l=>Q .non l,rt:=Q} (jp N h) H):aP P w K mg base F (k+1) f (PySem.W.fnOf j a d g scope X kV B pm Z c ct) G sp:=by
 refine⟨len,λA outer s H Y us h Q E O C hb r D=>?_⟩;have hl:=len _ _ _ _ D;have KX:K.In s.heap:=C.mod.kin.keeps λb o e=>(C.bs b o e).1;have R:s.heap.NoLimit:=C.mod.nolimit.keeps λb o e=>(C.bs b o e).1;have m:∀y∈G.zip us,scope.names.lookup y.1=some .local\/(scope.names.lookup y.1=some .cell/\((cellsFrom (s.heap.objs.size+1) scope.names []).lookup y.1).isSome=true):=λ⟨n,v⟩hy=>by
  rcases S.par n (Qc hy).1 with q|q
  ·exact .inl q
  ·exact .inr ⟨q,PySem.W.cellsFrom_some _ _ _ (.inl q)⟩
 refine codeAny_call_function O.depth (KX _ _ lk) rfl S.co S.gen rfl (PySem.W.codeRec_of KX M) (hb _ _ _ _ ?_);refine wpAny_newFunctionEnv_cells S.kind m λenv he s1 x=>?_;subst he;refine⟨R.keeps x.toInCall.keep,codeAny_func ?_⟩;obtain⟨t,ht,hq⟩:=p A outer s H h Q E (O.deeper _) D;have I:aL (rT F P w K mg base N a scope f c A outer s H E) [] (jp N h) H s1:=EH S O.hd C hl r x;refine wpAny_mono (ht [] s1 (jp N h) H _ I hq) (λfl T z=>?_) λe T z=>z;have fin:∀{i:St}{l:Hp}{v:V}{u:Value},aL (rT F P w K mg base N a scope f c A outer s H E) [] i l T->aV v u->Q v l->CE outer P w H s Q u T:=λ{i l v u}J U q=>⟨v,l,J.os,J.bare,J.base,J.hok,U,q⟩
 cases fl with|ret u=>obtain⟨v,i,l,J,U,q⟩:=z;exact fin J U q|next=>obtain⟨i,l,J,q⟩:=z;exact fin (v:=V.non) (u:=Value.none) J rfl q|brk=>obtain⟨_,_,_,q⟩:=z;exact False.elim q|cont=>obtain⟨_,_,_,q⟩:=z;exact False.elim q
end L2
namespace L2
open PySem PySem.Spec PyProof.Rows
section
variable{X:Cx}{x:Str}{p a:Pos}{e:Expr}{b:RJ}{t:TA}{id T:String}{r:List V->Hp->VK->Prop}
def tCB(r:List V->Hp->VK->Prop)(t:TA):TE:=λc H Q=>t c H λd f=>r d f Q
def au(hc:cN X (.builtin id) r)(hg:Gl X x)(hm:X.mg x=none)(i:bootBuiltins x=some (.builtin id))(j:PA X (e::b) t)(hn:x≠"__name__":=by decide)(d:(x==("__debug__":Str))=false:=by decide)(l:starEach (e::b) X.env=(false,eval e X.env)::starEach b X.env:=by rfl)(f:(backTo a (starEach b X.env)).any (·.1)=false:=by rfl):PE X (.Call (.Name x p) (e::b) [] a) (tCB r t):=by intro c s g H Q I h;refine wr (lO I hg hm i ?_ hn d);exact PyProof.Rows.callWith_builtin1 (cy (j a c s g H _ I h) λk m⟨n,o,I1,q,u⟩=>hc c m g o n k Q I1 q u) l f
def db(hc:cN X (.type T) r)(hg:Gl X x)(hm:X.mg x=none)(i:bootBuiltins x=some (.type T))(j:PA X (e::b) t)(hn:x≠"__name__":=by decide)(d:(x==("__debug__":Str))=false:=by decide)(l:starEach (e::b) X.env=(false,eval e X.env)::starEach b X.env:=by rfl)(f:(backTo a (starEach b X.env)).any (·.1)=false:=by rfl):PE X (.Call (.Name x p) (e::b) [] a) (tCB r t):=by intro c s g H Q I h;refine wr (lO I hg hm i ?_ hn d);exact z_ (cy (j a c s g H _ I h) λk m⟨n,o,I1,q,u⟩=>hc c m g o n k Q I1 q u) l f
end
end L2
namespace HT
open PySem PyProof.Rows
section
open PySem.SeqAt
open PySem.AutoSeq1(wpAny_loadPart')
open PySem.MeetsSeq PySem.MeetsSeq2 PySem.MeetsSeq3
end
section
variable{prog:RH}{w:World}{A:Around}{E:RD}{s:Shared}
def Kn(p:IsTup s.heap t d.toArray)(q:IsTup s.heap b a.toArray)(o:d≠[])(h1:a=[]->Q (.ref t) s)(h2:a≠[]->Q (.ref s.heap.objs.size) {s with heap:=s.heap.push {cls:=.type "tuple",data:=.seq (d++a).toArray}})(l:d.length+a.length<=sizeLine):wpAny (model prog w) A (binaryOp .Add (.ref t) (.ref b)) Q E s:=by
 obtain⟨⟨cls,dd,data,sl⟩,j,hc,n,hd⟩:=id p;obtain⟨⟨m,f,data2,g⟩,c,h,n2,i⟩:=id q;simp only at hc hd h i;subst hc hd h i;have e:d.toArray++a.toArray=(d++a).toArray:=by simp
 by_cases k:a=[]
 ·exact concat_meets ⟨_,j,rfl⟩ ⟨_,c,rfl⟩ noFill_tuple_add seq_tuple_add PySem.F.slot_tuple_add PySem.F.entry_tuple_add (PySem.F.args_tuple_add_2 _ _) (tuple_addW1 t b d.toArray a.toArray n n2 dd f sl g (by simpa using o) (by simp[k])) ⟨j,c,h1 k⟩
 ·refine concat_meets ⟨_,j,rfl⟩ ⟨_,c,rfl⟩ noFill_tuple_add seq_tuple_add PySem.F.slot_tuple_add PySem.F.entry_tuple_add (PySem.F.args_tuple_add_2 _ _) (tuple_addW2 t b d.toArray a.toArray n n2 dd f sl g (by simpa using o) (by simpa using k) (by rw[j_,j_];exact l)) ⟨j,c,?_⟩
  rw[e];exact h2 k
def iB(n d:Nat):Option Int->Nat|none=>d|some v=>if v<0 then(v+(n:Int)).toNat else min v.toNat n
def F3(n d:Nat):iB n d none=d:=rfl
def LU(n d:Nat)(hd:d<=n)(o:Option Int):iB n d o<=n:=by cases o with|none=>exact hd|some v=>
  show(if v<0 then(v+(n:Int)).toNat else min v.toNat n)<=n
  by_cases a:v<0
  ·rw[i_ a];lia
  ·rw[ir a];exact Nat.min_le_right _ _
def Dz(v:Int)(n d:Nat):(if v<0 then max (v+(n:Int)) 0 else min v (n:Int))=((iB n d (some v):Nat):Int):=by
 show(if v<0 then max (v+(n:Int)) 0 else min v (n:Int))=(((if v<0 then(v+(n:Int)).toNat else min v.toNat n):Nat):Int)
 by_cases a:v<0
 ·simp only[i_ a];lia
 ·simp only[ir a];lia
def CT(lo hi:Option Int)(n:Nat):Builtin.Slice.sliceAdjust lo hi 1 (n:Int)=(((iB n 0 lo:Nat):Int),((iB n n hi:Nat):Int)):=by
 have h1:¬((1:Int)<0):=by lia
 unfold Builtin.Slice.sliceAdjust;simp only[h1,Qy];refine Prod.ext ?_ ?_
 ·cases lo with|none=>rfl|some v=>exact Dz v n 0
 ·cases hi with|none=>rfl|some v=>exact Dz v n n
def BU(i j:Nat):Builtin.Slice.slicePlaces (i:Int) (j:Int) 1=j-i:=by
 unfold Builtin.Slice.slicePlaces;have h1:(1:Int)>0:=by lia
 simp only[h1,QZ,Int.ediv_one]
 split<;>lia
def uw(p:IsPart v o)(h:Q o s):wpAny (model prog w) A (Builtin.Slice.slicePartIndex v) Q E s:=by cases p with|none=>exact slicePart_none h|int i t=>exact slicePart_int h
def qG{sl:Addr}{c d:Value}{lo hi:Option Int}{n:Nat}{Q:Int×Int×Nat->Shared->Prop}(e:s.heap.IsSliceOf sl c d .none)(pl:IsPart c lo)(f:IsPart d hi)(h:Q (((iB n 0 lo:Nat):Int),1,iB n n hi-iB n 0 lo) s):wpAny (model prog w) A (Builtin.Slice.sliceApplied (.ref sl) (pure (n:Int))) Q E s:=by obtain⟨os,a,g,b⟩:=id e;unfold Builtin.Slice.sliceApplied Builtin.Slice.sliceFields;refine a_ (a_ (ry a b (x:=c) rfl (a_ (ry a b (x:=d) rfl (a_ (ry a b (x:=.none) rfl (e_ ?_)))))));refine a_ (slicePart_none ?_);show wpAny _ _ (if((1:Int)==0)=true then _ else _) _ _ s;rw[ir (by decide)];refine a_ (uw pl (a_ (uw f (a_ (e_ ?_)))));show wpAny _ _ (match Builtin.Slice.sliceAdjust lo hi 1 (n:Int)with|(lo,hi)=>pure (lo,(1:Int),Builtin.Slice.slicePlaces lo hi 1)) _ _ s;rw[CT lo hi n];show wpAny _ _ (pure (((iB n 0 lo:Nat):Int),(1:Int),Builtin.Slice.slicePlaces ((iB n 0 lo:Nat):Int) ((iB n n hi:Nat):Int) 1)) _ _ s;rw[BU];exact e_ h
def Gb(a:RK)(i k:Nat):((List.range k).filterMap λ(m:Nat)=>a[((i:Int)+(m:Int)*1).toNat]?).toArray=((a.toList.drop i).take k).toArray:=by
 have e:(λ(m:Nat)=>a[((i:Int)+(m:Int)*1).toNat]?)=λm=>a[i+m]?:=by
  funext m
  have:((i:Int)+(m:Int)*1).toNat=i+m:=by lia
  rw[this]
 rw[e];have:=pick_run a i k;rw[List.filterMap_map]at this;have b:((λx=>a[x]?)∘λx=>i+x)=λm=>a[i+m]?:=rfl;rw[b]at this;rw[this]
def pV{t sl:Addr}{a:RK}{i j:Value}{lo hi:Option Int}{Q:RD}(c:IsTup s.heap t a)(l:s.heap.IsSliceOf sl i j .none)(pl:IsPart i lo)(n:IsPart j hi)(o:¬(iB a.size 0 lo=0/\iB a.size a.size hi=a.size))(h:Q (.ref s.heap.objs.size) {s with heap:=s.heap.push {cls:=.type "tuple",data:=.seq ((a.toList.drop (iB a.size 0 lo)).take (iB a.size a.size hi-iB a.size 0 lo)).toArray}})(p:a.size<=sizeLine):wpAny (model prog w) A (getItem (.ref t) (.ref sl)) Q E s:=by
 have b:sizeOk (.seq ((a.toList.drop (iB a.size 0 lo)).take (iB a.size a.size hi-iB a.size 0 lo)).toArray):=by show((a.toList.drop (iB a.size 0 lo)).take (iB a.size a.size hi-iB a.size 0 lo)).toArray.size<=sizeLine;rw[j_,no,P6,nn];lia
 have u:iB a.size a.size hi<=a.size:=LU _ _ (f_ _) hi;obtain⟨os,d,e,r⟩:=id l;have f:s.TypeIs (.ref sl) "slice":=⟨os,d,e⟩;unfold getItem
 try with_reducible refine p_ ?_
 first|refine a_ (e_ ?_)|skip
 refine a_ (wpAny_sequenceKey c.typeIs (by decide) ?_);refine a_ (q4 (name:=Str.ofString "__getitem__") c.typeIs Rh (qq Rh c.typeIs entry_tuple_getitem ?_ (args_tuple_getitem _ _)))
 show wpAny _ _ (Builtin.Tuple.tupleItemsOf (.ref t)>>=_) _ _ s;refine a_ (tupleItemsOf_ c ?_);refine a_ (Q5 f ?_);rw[i_ (by decide)];refine a_ (qG l pl n ?_);have g:¬((((iB a.size 0 lo:Nat):Int)==0&&(1:Int)==1&&(iB a.size a.size hi-iB a.size 0 lo)==a.size)=true):=by intro q;rw[n7,n7]at q;have v:((iB a.size 0 lo:Nat):Int)=0:=eq_of_beq q.1.1;have x:iB a.size a.size hi-iB a.size 0 lo=a.size:=eq_of_beq q.2;exact o ⟨by lia,by lia⟩
 show wpAny _ _ (if(((iB a.size 0 lo:Nat):Int)==0&&(1:Int)==1&&(iB a.size a.size hi-iB a.size 0 lo)==a.size)=true then _ else _) _ _ s;rw[ir g,Gb]
 first|exact a_ (m:=Builtin.Tuple.tupleExact _) (rb (e_ ⟨_,rfl,e_ h⟩) b)|exact a_ (m:=Builtin.Tuple.tupleExact _) (rb (a_ (e_ (e_ ⟨_,rfl,e_ h⟩))) b)|exact a_ (a_ (m:=Builtin.Tuple.tupleExact _) (rb (e_ (e_ ⟨_,rfl,e_ h⟩)) b))|exact a_ (a_ (m:=Builtin.Tuple.tupleExact _) (rb (e_ ⟨_,rfl,e_ h⟩) b))
end
end HT
namespace L2
open PySem PySem.Spec PyProof.Rows
abbrev TO:=St->Hp->(Option Int->Hp->Prop)->Prop
def PO(X:Cx)(e:Option Expr)(t:TO):Prop:=∀(a:RE)(s:Shared)(b:St)(H:Hp)(Q:Option Int->Hp->Prop),aL X a b H s->t b H Q->wpAny (model X.prog X.w) X.A (evalPart e X.env) (λu d=>∃o c,aL X a b c d/\IsPart u o/\Q o c) X.xe s
def IB:TO:=λ_ H Q=>Q none H
def NF(t:TE):TO:=λa H Q=>t a H λx b=>∃i,x=.int i/\Q (some i) b
def CA:∀{a:RG},aY (ns.map V.int) a->IntsAre a ns:=by induction ns with|nil=>intro a r;rw[Q9]at r;cases r;exact .nil|cons n ns b=>intro a r;rw[np]at r;cases r with|cons c r2=>obtain⟨t,e⟩:=c;subst e;exact .cons n t (b r2)
section
variable{X:Cx}{e:Expr}{te:TE}{lo hi:Option Expr}{c d:TO}{f p2:Pos}
def ja:PO X none IB:=by intro a s b H Q I h;rw[evalPart_none];exact e_ ⟨none,H,I,.none,h⟩
def i9(h:PE X e te):PO X (some e) (NF te):=by intro a s b H Q I g;rw[evalPart_some];refine cy (h a s b H _ I g) λu m⟨x,j,I1,k,l⟩=>?_;obtain⟨i,rfl,q⟩:=l;obtain⟨t,rfl⟩:=k;exact⟨some i,j,I1,.int i t,q⟩
def Nl(X:Cx)(r:V->Option Int->Option Int->Hp->VK->Prop):Prop:=∀(a:RE)(s:Shared)(b:St)(H:Hp)(x:V)(v g h:Value)(lo hi:Option Int)(sl:Addr)(Q:VK),aL X a b H s->aV x v->s.heap.IsSliceOf sl g h .none->IsPart g lo->IsPart h hi->r x lo hi H Q->∃T id,typeLookup (.type T) "__getitem__"=pure (some (.builtin id))/\s.TypeIs v T/\wpAny (model X.prog X.w) X.A (getItem v (.ref sl)) (EP X a b Q) X.xe s
def tSl(r:V->Option Int->Option Int->Hp->VK->Prop)(te:TE)(c d:TO):TE:=λa H Q=>te a H λx b=>c a b λl g=>d a g λu h=>r x l u h Q
def gh(n:Nl X r)(o:PE X e te)(p:PO X lo c)(t:PO X hi d):PE X (.Subscript e (.Slice lo hi none p2) f) (tSl r te c d):=by intro a s i H Q I h;refine Subscript_ (cy (o a s i H _ I h) λv y⟨x,z,I1,B,C⟩=>?_);refine wpAny_Slice (cy (p a y i z _ I1 C) λj D⟨l,E,F,pl,G⟩=>cy (t a D i E _ F G) λk g⟨u,m,J,K,L⟩=>?_);rw[evalPart_none];refine e_ ?_;have M:aL X a i m {g with heap:=g.heap.push {cls:=.type "slice",data:=.fields #[j,k,.none]}}:=J.kept (t':=g.toks) λb ob q=>b_ _ q;obtain⟨T,id,N,O,hg⟩:=n a {g with heap:=g.heap.push {cls:=.type "slice",data:=.fields #[j,k,.none]}} i m x v j k l u g.heap.objs.size Q M B (Heap.IsSliceOf.new ..) pl K L;show wpAny (model X.prog X.w) X.A (subscriptTail e (.Slice lo hi none p2) v (.ref g.heap.objs.size)) (EP X a i Q) X.xe {g with heap:=g.heap.push {cls:=.type "slice",data:=.fields #[j,k,.none]}};exact tail_any (ops:=[.ref g.heap.objs.size,v]) O N hg (by with_unfolding_all rfl)
def w5(a:List V)(lo hi:Option Int):List V:=(a.drop (HT.iB a.length 0 lo)).take (HT.iB a.length a.length hi-HT.iB a.length 0 lo)
def sR(a:List V)(lo hi:Option Int):(w5 a lo hi).length<=a.length:=by unfold w5;rw[no,P6];lia
def NW(K:RC):V->Option Int->Option Int->Hp->VK->Prop:=λx lo hi H Q=>∃a b,x=.ref a/\aT K H a b/\¬(HT.iB b.length 0 lo=0/\HT.iB b.length b.length hi=b.length)/\∀p,H p=none->Q (.ref p) (az H p (.tup (w5 b lo hi)))
def LQ:Nl X (NW X.K):=by
 intro k s y H x v z A lo hi sl Q I n p pl t h;obtain⟨a,i,rfl,u,w,q⟩:=h;cases n;obtain⟨j,r,l,m⟩:=I.tuple u;have g:j.toArray.size=i.length:=by rw[j_];exact r.length.symm
 refine⟨"tuple",_,PyProof.Rows.slot_tuple_getitem.lookup,l.typeIs,?_⟩;refine HT.pV l p pl t (by rw[g];exact w) ?_ (by rw[g];exact m);rw[g];refine⟨.ref s.heap.objs.size,_,I.laid (t':=s.toks) (o:=.tup (w5 i lo hi)) (λb ob q=>b_ _ q) (f_ _) ?_,rfl,q _ (I.hok.fresh (f_ _))⟩;exact⟨mu (sR i lo hi) m,_,(r.drop (HT.iB i.length 0 lo)).take (HT.iB i.length i.length hi-HT.iB i.length 0 lo),IsTup.new _ _⟩
def KP(K:RC):R2:=λx y H Q=>∃a b h g,x=.ref a/\y=.ref b/\aT K H a h/\aT K H b g/\h≠[]/\h.length+g.length<=sizeLine/\(g=[]->Q (.ref a) H)/\(g≠[]->∀p,H p=none->Q (.ref p) (az H p (.tup (h++g))))
def aY.nil_iff(r:aY a b):b=[]↔a=[]:=by cases r with|nil=>simp|cons _ _=>simp
def Jz:lS X (binaryOp .Add) (KP X.K):=by intro i s E H x y v u Q I l m h;obtain⟨a,b,n,p,rfl,rfl,r,t,A,j,B,C⟩:=h;cases l;cases m;obtain⟨D,g,p1,_⟩:=I.tuple r;obtain⟨k,r2,p2,_⟩:=I.tuple t;refine HT.Kn p1 p2 (λz=>A (g.nil_iff.mp z)) (λz=>⟨.ref a,H,I,rfl,B (r2.nil_iff.mp z)⟩) (λz=>?_) (by rw[<-g.length,<-r2.length];exact j);refine⟨.ref s.heap.objs.size,_,I.laid (t':=s.toks) (o:=.tup (n++p)) (λb ob q=>b_ _ q) (f_ _) ?_,rfl,C (λw=>z (r2.nil_iff.mpr w)) _ (I.hok.fresh (f_ _))⟩;exact⟨by rw[iA];exact j,_,g.append r2,IsTup.new _ _⟩
end
end L2
namespace L2
open PySem PySem.Spec PyProof.Rows
def J6(n:Nat)(i:Int):Option Nat:=if 0<=i then(if i<n then some i.toNat else none)else if-(n:Int)<=i then some (i+n).toNat else none
def vJ{a:Type}(b:List a)(i:Int):Option a:=(J6 b.length i).bind λj=>b[j]?
def Dt(h:J6 n i=some j):seqIndex? i n=some j/\j<n/\-(n:Int)<=i/\i<n:=by
 unfold J6 at h
 by_cases h0:0<=i
 ·rw[i_ h0]at h
  by_cases h1:i<n
  ·rw[i_ h1]at h;have e:i.toNat=j:=ji h;exact⟨by rw[seqIndex_of h0 h1,e],by lia,by lia,h1⟩
  ·rw[ir h1]at h;cases h
 ·rw[ir h0]at h
  by_cases h1:-(n:Int)<=i
  ·rw[i_ h1]at h;have e:(i+n).toNat=j:=ji h;exact⟨by rw[seqIndex_neg (by lia) h1,e],by lia,h1,by lia⟩
  ·rw[ir h1]at h;cases h
def zB(h:vJ a i=some v):∃j,seqIndex? i a.length=some j/\a[j]?=some v/\j<a.length/\-(a.length:Int)<=i/\i<a.length:=by unfold vJ at h;cases e:J6 a.length i with|none=>rw[e]at h;cases h|some j=>rw[e]at h;obtain⟨h1,h2,h3,h4⟩:=Dt e;exact⟨j,h1,h,h2,h3,h4⟩
def zH(b:Expr):Prop:=∀o i,subscripted b false o i=operate [o,i] (getItem o i)
def No(X:Cx)(r:R2):Prop:=∀(c a:Expr)(b:RE)(s:Shared)(d:St)(H:Hp)(x y:V)(v u:Value)(Q:VK),aL X b d H s->aV x v->aV y u->r x y H Q->subscripted a false v u=operate [v,u] (getItem v u)->wpAny (model X.prog X.w) X.A (subscriptTail c a v u) (EP X b d Q) X.xe s
def Pr(X:Cx)(id:String)(r:V->List V->Hp->VK->Prop):Prop:=∀(a:RE)(s:Shared)(b:St)(H:Hp)(x:V)(c:List V)(v:Value)(d:RG)(Q:VK),aL X a b H s->aV x v->aY c d->r x c H Q->wpAny (model X.prog X.w) X.A (call (.builtin id) (v::d)) (EP X a b Q) X.xe s
section
variable{X:Cx}{a b:Expr}{F G:TE}{E:Pos}
def Aq(d:No X r)(e:PE X a F)(f:PE X b G)(g:zH b):PE X (.Subscript a b E) (M9 r F G):=by intro c s i H Q I h;exact Subscript_ (MO e f I h λv u j x y k l m n q=>d a b c j i k x y v u Q l m n q (g _ _))
def LX(K:RC):R2:=λx y H Q=>∃p c i v,x=.ref p/\y=.int i/\aO K H p c/\vJ c i=some v/\Q v H
def LW(K:RC):R2:=λx y H Q=>∃p c i v,x=.ref p/\y=.int i/\aT K H p c/\vJ c i=some v/\Q v H
def Pb:R2:=λx y H Q=>∃z i c,x=.str z/\y=.int i/\z.length<=sizeLine/\vJ z.cps.toList i=some c/\Q (.str ⟨#[c]⟩) H
def J4:No X (LX X.K):=by
 intro d e c s l H x y v u Q I o A h m;obtain⟨p,L,i,z,rfl,rfl,B,C,q⟩:=h;cases o;obtain⟨t,rfl⟩:=A;obtain⟨f,r,pl,M⟩:=I.list B;obtain⟨j,h1,h2,h3,h4,h5⟩:=zB C;obtain⟨w,n,g⟩:=r.get h2;have D:=r.length;have hn:=q9;have fin:EP X c l Q w s:=⟨z,H,I,g,q⟩
 by_cases h0:0<=i
 ·have k:i.toNat=j:=by rw[seqIndex_of h0 h5]at h1;exact ji h1
  exact item_listR pl.isList h0 (by lia) (by rw[k];simpa using n) fin m
 ·have k:(i+(f.toArray.size:Int)).toNat=j:=by rw[seqIndex_neg (by lia) h4]at h1;rw[j_,<-D];exact ji h1
  exact subscriptTail_builtinR (x:=w) pl.isList.typeIs slot_list_getitem.lookup (wpAny_getItem_list_neg (Q:=λr J=>r=w/\EP X c l Q r J) pl.isList (by lia) (by rw[j_]<;>lia) (by lia) (by rw[k];simpa using n) ⟨rfl,fin⟩) m
def Mt:No X (LW X.K):=by intro d e c s g H x y v u Q I k l h m;obtain⟨p,J,i,z,rfl,rfl,n,o,q⟩:=h;cases k;obtain⟨t,rfl⟩:=l;obtain⟨A,r,pl,L⟩:=I.tuple n;obtain⟨j,h1,h2,h3,h4,h5⟩:=zB o;obtain⟨w,B,f⟩:=r.get h2;have C:=r.length;have hn:=q9;have fin:EP X c g Q w s:=⟨z,H,I,f,q⟩;exact subscriptTail_builtinR (x:=w) pl.typeIs slot_tuple_getitem.lookup (getItem_tuple (j:=j) (Q:=λr D=>r=w/\EP X c g Q r D) pl (by lia) (by lia) (by rw[j_,<-C];exact h1) (by simpa using B) ⟨rfl,fin⟩) m
def Cw:No X Pb:=by
 intro d e f s r H x y v u Q I g k h l;obtain⟨z,i,c,rfl,rfl,w,m,q⟩:=h;obtain⟨t,rfl⟩:=g;obtain⟨A,rfl⟩:=k;obtain⟨j,h1,h2,h3,h4,h5⟩:=zB m;have n:z.cps.toList.length=z.length:=by simp[Str.length]
 rw[n]at h1 h4 h5;have hn:=q9;exact tail_any (typeIs_str s z t) slot_str_getitem.lookup (getItem_str (c:=c) (by have o:decide (i< -(2^63:Int))=false:=nk (by lia);have p:decide (i>=2^63)=false:=nk (by lia);rw[o,p,Bool.or_false]) (by rw[h1];simpa using h2) ⟨.str ⟨#[c]⟩,H,I.tok _,⟨_,rfl⟩,q⟩) l
def Cc(c:RG)(n j:Nat)(u:Value):Obj.mapSeq (·.setIfInBounds j u) {cls:=.type "list",data:=.seq c.toArray n}={cls:=.type "list",data:=.seq (c.set j u).toArray n}:=by simp[Obj.mapSeq]
theorem aL.lst(I:aL X d g H s)(h:H p=some (.lst f)):∃(c:RG)(n:Nat),aY f c/\s.heap.get? p=some {cls:=.type "list",data:=.seq c.toArray n}/\f.length<=sizeLine:=by obtain⟨z,c,n,r,e⟩:=I.hok p _ h;exact⟨c,n,r,e,z⟩
def aL.lstUpd{d:RE}{l:St}{H:Hp}{s:Shared}{p:Addr}{v i:List V}{g c:RG}{n j:Nat}{f:Obj->Obj}(I:aL X d l H s)(h:H p=some (.lst v))(w:s.heap.get? p=some {cls:=.type "list",data:=.seq g.toArray n})(o:f {cls:=.type "list",data:=.seq g.toArray n}={cls:=.type "list",data:=.seq c.toArray j})(r:aY i c)(y:i.length<=sizeLine)(t:Nat):aL X d l (az H p (.lst i)) {s with heap:=s.heap.update p f,toks:=t}:=by
 have e:(s.heap.update p f).get? p=some {cls:=.type "list",data:=.seq c.toArray j}:=by rw[th f w (by rw[o]<;>rfl),o]
 refine I.write (x:=p) (e:=p) (by rw[h];trivial) (.inl rfl) (λb u k q=>(u1 _ _ (o_ k)).trans q) ⟨_,e⟩ ?_;exact⟨y,c,j,r,e⟩
def NZ:V->V->V->Hp->(Hp->Prop)->Prop:=λo i v H Q=>∃p c k j,o=.ref p/\i=.int k/\H p=some (.lst c)/\J6 c.length k=some j/\Q (az H p (.lst (c.set j v)))
def F1:KF X NZ:=by
 intro c s w H o i v D iv u Q I x y z h;obtain⟨p,A,k,j,rfl,rfl,l,B,q⟩:=h;cases x;obtain⟨t,rfl⟩:=y;obtain⟨d,n,r,e,C⟩:=I.lst l;obtain⟨h1,h2,h3,h4⟩:=Dt B;have f:=r.length;have hn:=q9;have m:aL X c w (az H p (.lst (A.set j v))) {s with heap:=s.heap.update p (Obj.mapSeq (·.setIfInBounds j u))}:=I.lstUpd l e (Cc d n j u) (r.set z j) (by rw[vu];exact C) s.toks
 by_cases h0:0<=k
 ·have g:k.toNat=j:=by rw[seqIndex_of h0 h4]at h1;exact ji h1
  exact PySem.W.ki_setAt e h0 (by lia) (by rw[j_,<-f];exact h4) (by rw[g];exact⟨_,m,q⟩)
 ·have g:(k+(d.toArray.size:Int)).toNat=j:=by rw[seqIndex_neg (by lia) h3]at h1;rw[j_,<-f];exact ji h1
  exact PySem.W.ki_setBack e (by lia) (by rw[j_,<-f];exact h3) (by lia) (by rw[g];exact⟨_,m,q⟩)
def yj(lo hi:Option Int)(n:Nat):(sliceBounds lo hi none n).1=((HT.iB n 0 lo:Nat):Int)/\(sliceBounds lo hi none n).2.1=((HT.iB n n hi:Nat):Int)/\(sliceBounds lo hi none n).2.2=1:=by
 refine⟨?_,?_,rfl⟩
 ·cases lo with|none=>simp[sliceBounds,HT.iB]|some i=>
   simp only[sliceBounds,HT.iB,Option.getD_none,show(1:Int)>0 by decide,QZ]
   by_cases h:i<0
   ·simp only[h,QZ]<;>lia
   ·simp only[h,Qy]<;>lia
 ·cases hi with|none=>simp[sliceBounds,HT.iB]|some i=>
   simp only[sliceBounds,HT.iB,Option.getD_none,show(1:Int)>0 by decide,QZ]
   by_cases h:i<0
   ·simp only[h,QZ]<;>lia
   ·simp only[h,Qy]<;>lia
def wg(c:RG)(lo hi:Option Int):slicePick c.toArray lo hi none=((c.drop (HT.iB c.length 0 lo)).take (HT.iB c.length c.length hi-HT.iB c.length 0 lo)).toArray:=by obtain⟨h1,h2,h3⟩:=yj lo hi c.toArray.size;unfold slicePick;rw[h1,h2,h3];simp only[sliceRange_one,pick_run,j_]<;>rfl
def NX(K:RC):V->Option Int->Option Int->Hp->VK->Prop:=λx lo hi H Q=>∃a c,x=.ref a/\aO K H a c/\∀p,H p=none->Q (.ref p) (az H p (.lst (w5 c lo hi)))
def Jh:Nl X (NX X.K):=by intro e s n H x v p t lo hi sl Q I g i pl j h;obtain⟨a,c,rfl,k,q⟩:=h;cases g;obtain⟨l,r,f,m⟩:=I.list k;have d:=r.length;refine⟨"list",_,slot_list_getitem.lookup,f.isList.typeIs,?_⟩;refine wpAny_getItem_list_slice f.isList i pl j .none (by simp) ?_ (by rw[j_]<;>lia);rw[wg,<-d];refine⟨.ref s.heap.objs.size,_,I.laid (t':=s.toks) (o:=.lst (w5 c lo hi)) (λb ob q=>b_ _ q) (f_ _) ?_,rfl,q _ (I.hok.fresh (f_ _))⟩;exact⟨mu (sR c lo hi) m,_,0,(r.drop (HT.iB c.length 0 lo)).take (HT.iB c.length c.length hi-HT.iB c.length 0 lo),g_ _ rfl⟩
def nV:V->Bool|.non=>true|.bl _=>true|.int _=>true|.str _=>true|_=>false
def KY:V->V->Bool|.non,.non=>true|.bl a,.bl b=>a==b|.bl a,.int b=>(if a then 1 else 0)==b|.int a,.bl b=>a==(if b then 1 else 0)|.int a,.int b=>a==b|.str a,.str b=>a==b|_,_=>false
def MH(e:aV y u)(c:aV x v)(g:nV y=true)(f:nV x=true):SeqAt.EqAt A s u v (KY y x):=by cases y with
 |non=>cases e;cases x with|non=>cases c;exact SeqAt.EqAt.same _|bl b=>cases c;exact SeqAt.EqAt.none_bool b|int b=>obtain⟨t,rfl⟩:=c;exact SeqAt.EqAt.none_int b t|str b=>obtain⟨t,rfl⟩:=c;exact SeqAt.EqAt.none_str b t|_=>exact absurd (show false=true from f) lm
 |bl a=>cases e;cases x with|non=>cases c;exact SeqAt.EqAt.bool_none a|bl b=>cases c;exact SeqAt.EqAt.bool_bool a b|int b=>obtain⟨t,rfl⟩:=c;exact SeqAt.EqAt.bool_int a b t|str b=>obtain⟨t,rfl⟩:=c;exact SeqAt.EqAt.bool_str a b t|_=>exact absurd (show false=true from f) lm
 |int a=>obtain⟨d,rfl⟩:=e;cases x with|non=>cases c;exact SeqAt.EqAt.int_none a d|bl b=>cases c;exact SeqAt.EqAt.int_bool a d b|int b=>obtain⟨t,rfl⟩:=c;exact SeqAt.EqAt.int_int a d b t|str b=>obtain⟨t,rfl⟩:=c;exact SeqAt.EqAt.int_str a d b t|_=>exact absurd (show false=true from f) lm
 |str a=>obtain⟨d,rfl⟩:=e;cases x with|non=>cases c;exact SeqAt.EqAt.str_none a d|bl b=>cases c;exact SeqAt.EqAt.str_bool a d b|int b=>obtain⟨t,rfl⟩:=c;exact SeqAt.EqAt.str_int a d b t|str b=>obtain⟨t,rfl⟩:=c;exact SeqAt.EqAt.str_str a d b t|_=>exact absurd (show false=true from f) lm
 |_=>exact absurd (show false=true from g) lm
def Kg(x:V)(u:Value):Bool:=match u with|.none=>KY .non x|.bool b=>KY (.bl b) x|.int i _=>KY (.int i) x|.str z _=>KY (.str z) x|_=>false
def Hn(r:aV y u)(f:nV y=true):Kg x u=KY y x:=by cases y with|non=>cases r;rfl|bl b=>cases r;rfl|int i=>obtain⟨t,rfl⟩:=r;rfl|str z=>obtain⟨t,rfl⟩:=r;rfl|_=>exact absurd (show false=true from f) lm
theorem zC:∀{c:List V}{d:RG},aY c d->c.all nV=true->d.any (Kg x)=c.any λy=>KY y x|_,_,.nil,_=>rfl|y::c,u::d,.cons r t,f=>by rw[P8,n7]at f;rw[w1,w1,Hn r f.1,zC t f.2]
theorem u8(g:aV x v)(h:nV x=true):∀{d:List V}{e:RG},aY d e->d.all nV=true->∀u∈e,SeqAt.EqAt A s u v (Kg x u)
 |_,_,.nil,_=>λu c=>by cases c|y::d,u::e,.cons r t,f=>λi c=>by
  rw[P8,n7]at f;rcases pv.mp c with rfl|c
  ·rw[Hn r f.1];exact MH r g f.1 h
  ·exact u8 g h t f.2 i c
def nC(x:V)(c:List V):Bool:=c.any λy=>KY y x
def rIn(K:RC)(d:Bool):R2:=λx y H Q=>∃p c,y=.ref p/\(aO K H p c\/aT K H p c)/\nV x=true/\c.all nV=true/\Q (.bl (if d then !nC x c else nC x c)) H
def En:lS X (compareOp .In) (rIn X.K false):=by
 intro f s l H x y v u Q I g j h;obtain⟨p,m,rfl,d,i,fs,q⟩:=h;cases j;rcases d with d|d
 ·obtain⟨c,r,pl,k⟩:=I.list d;refine SeqAt.in_listAt (Kg x) pl.isList (λw e=>u8 g i r fs w (by simpa using e)) ⟨.bl _,H,I,rfl,?_⟩;rw[show c.toArray.any (Kg x)=c.any (Kg x)by simp,zC r fs];exact q
 ·obtain⟨c,r,pl,k⟩:=I.tuple d;refine SeqAt.in_tupleAt (Kg x) pl (λw e=>u8 g i r fs w (by simpa using e)) ⟨.bl _,H,I,rfl,?_⟩;rw[show c.toArray.any (Kg x)=c.any (Kg x)by simp,zC r fs];exact q
def zu:cN X (.type "list") (λv H Q=>∃p d,v=[.ref p]/\(aO X.K H p d\/aT X.K H p d)/\∀l,H l=none->Q (.ref l) (az H l (.lst d))):=by
 intro i s y H v A Q I r h;obtain⟨p,d,rfl,j,q⟩:=h;obtain⟨u,rfl,z⟩:=jV r;cases z;have fin:∀(c:RG),aY d c->d.length<=sizeLine->∀(h':Heap)(f:Nat),(∀b x,s.heap.get? b=some x->h'.get? b=some x)->h'.get? s.heap.objs.size=some {cls:=.type "list",dict:=none,data:=.seq c.toArray f,slots:=#[]}->EP X i y Q (.ref s.heap.objs.size) {s with heap:=h'}:=λc g k h' f kp e=>⟨.ref s.heap.objs.size,_,I.laid (t':=s.toks) kp (f_ _) (show c5 X.prog X.w _ h' _ (.lst d)from⟨k,c,f,g,e⟩),rfl,q _ (I.hok.fresh (f_ _))⟩
 rcases j with j|j
 ·obtain⟨c,g,pl,k⟩:=I.list j;have m:=g.length;obtain⟨o,t,hc,n,hd⟩:=pl.isList;exact call_list_seq p (.inl rfl) t hc hd (λh' f kp e=>fin c g k h' f kp e) (by simp only[j_]<;>lia)
 ·obtain⟨c,g,pl,k⟩:=I.tuple j;have m:=g.length;obtain⟨o,t,hc,n,hd⟩:=pl;exact call_list_seq p (.inr rfl) t hc hd (λh' f kp e=>fin c g k h' f kp e) (by simp only[j_]<;>lia)
def w9:cN X (.type "tuple") (λj H Q=>∃p f,j=[.ref p]/\((aO X.K H p f/\∀l,H l=none->Q (.ref l) (az H l (.tup f)))\/(aT X.K H p f/\Q (.ref p) H))):=by
 intro c s k H j y Q I r h;obtain⟨p,f,rfl,h⟩:=h;obtain⟨u,rfl,t⟩:=jV r;cases t;rcases h with⟨g,q⟩|⟨g,q⟩
 ·obtain⟨d,i,pl,m⟩:=I.list g;have n:=i.length;refine call_tuple_list pl.isList (λh' kp=>?_) (by simp only[j_]<;>lia);have I1:aL X c k H {s with heap:=h'}:=I.kept (t':=s.toks) kp;have x:aL X c k (az H h'.objs.size (.tup f)) {s with heap:=h'.push {cls:=.type "tuple",data:=.seq d.toArray}}:=I1.laid (t':=s.toks) (λb o e=>b_ _ e) (f_ _) (show c5 X.prog X.w _ _ _ (.tup f)from⟨m,d,i,IsTup.new _ _⟩)
  exact⟨.ref h'.objs.size,_,x,rfl,q _ (I1.hok.fresh (f_ _))⟩
 ·obtain⟨d,i,pl,m⟩:=I.tuple g;exact call_tuple_same pl ⟨.ref p,H,I,rfl,q⟩
def tyV(K:RC)(T:String)(x:V)(H:Hp):Prop:=match x with|.str _=>T="str"|.int _=>T="int"|.ref p=>(T="list"/\∃d,aO K H p d)\/(T="tuple"/\∃o,K.lookup p=some o/\o.cls=.type "tuple"/\o.dict=none)\/(T="dict"/\((∃c,H p=some (.dK c))\/∃c,H p=some (.dT c)))\/(T="set"/\∃S n,H p=some (.set S n))|_=>False
def Lk(I:aL X h l H s)(r:aV x v)(ty:tyV X.K T x H):
 s.TypeIs v T/\∀a,v=.ref a->∃ob,s.heap.get? a=some ob/\ob.dict=none:=by cases x with|str z=>obtain⟨t,rfl⟩:=r;cases(show T="str"from ty);exact⟨typeIs_str s z t,λ_ e=>nomatch e⟩|int i=>obtain⟨t,rfl⟩:=r;cases(show T="int"from ty);exact⟨typeIs_int s i t,λ_ e=>nomatch e⟩|ref p=>
  cases r;rcases ty with⟨rfl,m,j⟩|⟨rfl,o,d,hc,hd⟩|⟨rfl,d⟩|⟨rfl,S,n,d⟩
  ·obtain⟨k,_,pl,_⟩:=I.list j;refine⟨pl.isList.typeIs,λa e=>?_⟩;cases e;obtain⟨o,n,e,c,hd,_⟩:=pl;exact⟨o,e,hd⟩
  ·refine⟨⟨o,I.kIn p o d,hc⟩,λa e=>?_⟩;cases e;exact⟨o,I.kIn _ o d,hd⟩
  ·have z:∃o,s.heap.get? p=some o/\o.ExactDict:=by
    rcases d with⟨f,d⟩|⟨f,d⟩
    ·obtain⟨_,_,_,_,o,_,_,e,ex,_⟩:=I.hok p _ d;exact⟨o,e,ex⟩
    ·obtain⟨_,_,_,_,o,_,_,e,ex,_⟩:=I.hok p _ d;exact⟨o,e,ex⟩
   obtain⟨o,e,ex⟩:=z;refine⟨⟨o,e,ex.1⟩,λa g=>?_⟩;cases g;exact⟨o,e,ex.2.1⟩
  ·obtain⟨o,_,_,_,e,ex,_⟩:=I.hok p _ d;refine⟨⟨o,e,ex.1⟩,λa g=>?_⟩;cases g;exact⟨o,e,ex.2.1⟩|_=>exact False.elim ty
def tBM(K:RC)(T:String)(r:V->List V->Hp->VK->Prop)(D:TE)(t:TA):TE:=λc H Q=>D c H λx d=>tyV K T x d/\t c d λe f=>r x e f Q
variable{o e:Expr}{C:RJ}{D:TE}{t:TA}{g:Str}{B d:Pos}{T id:String}{r:V->List V->Hp->VK->Prop}
def N5(q:PlainAttrs T)(slot:Slot T g id)(n:typeOf (.builtin id)=pure (.type "method_descriptor"))(hm:Pr X id r)(u:PE X o D)(w:PA X (e::C) t)(i:attributeBase o g X.env (eval o X.env)=eval o X.env:=by rfl)(l:((backTo d (starEach (e::C) X.env)).all (λx=>!x.1)&&(backToKw d (keywordEach [] X.env)).all (λx=>x.1.isSome)&&decide ((e::C).length+([]:List Keyword).length+(if([]:List Keyword).isEmpty then 0 else 1)<30))=true:=by rfl)(j:(B.endLine==d.line)=true:=by rfl)(y:starEach (e::C) X.env=(false,eval e X.env)::starEach C X.env:=by rfl)(f:(backTo d (starEach C X.env)).any (·.1)=false:=by rfl):PE X (.Call (.Attribute o g B) (e::C) [] d) (tBM X.K T r D t):=by intro c s k H Q I h;refine wpAny_Call_method_late i l j rfl (cy (u c s k H _ I h) λv z⟨x,A,I1,m,ty,J⟩=>?_);obtain⟨h1,h2⟩:=Lk I1 m ty;refine⟨T,id,q,slot,n,h1,h2,?_⟩;have p:=w d c z k A _ I1 J;rw[y]at p⊢;refine s_ (by show(false||(backTo d (starEach C X.env)).any (·.1))=false;rw[f]<;>rfl) (yl ?_);exact cy p λL M⟨N,O,P,r2,R⟩=>hm c M k O x N v L Q P m r2 R
end
end L2
namespace L2
open PySem PySem.Spec PyProof.Rows
def MtM(X:Cx)(id:String)(r:V->List V->Hp->VK->Prop):Prop:=∀(a:RE)(s:Shared)(b:St)(H:Hp)(x:V)(c:List V)(v:Value)(d:RG)(Q:VK),aL X a b H s->aV x v->aY c d->r x c H Q->wpAny (model X.prog X.w) X.A (call (.builtin id) (v::d)) (EP X a b Q) X.xe s
def aY.one:∀{x:V}{a:RG},aY [x] a->∃u,a=[u]/\aV x u|_,_,.cons r .nil=>⟨_,rfl,r⟩
theorem aY.reverse(h:aY a b):aY a.reverse b.reverse:=by induction h with|nil=>exact .nil|cons r t c=>rw[List.reverse_cons,List.reverse_cons];exact aY.append c (.cons r .nil)
theorem aY.rep(h:aY a b):∀k:Nat,aY (List.replicate k a).flatten (List.replicate k b).flatten|0=>.nil|k+1=>by rw[r_,r_,Pz,Pz];exact aY.append h (aY.rep h k)
theorem xI(a:RG):∀(k:Nat)(b:RG),List.foldl (λc d=>c++d) b.toArray (List.replicate k a.toArray)=(b++(List.replicate k a).flatten).toArray
 |0,b=>by simp|k+1,b=>by
  have e:b.toArray++a.toArray=(b++a).toArray:=by simp
  have f:(b++a)++(List.replicate k a).flatten=b++(List.replicate (k+1) a).flatten:=by rw[r_,Pz,G_]
  rw[<-f,<-xI a k (b++a),<-e,r_,z7]
section
variable{X:Cx}{a:RE}{d:St}{H:Hp}{s:Shared}{l b:Addr}{g c i:List V}
def aL.lset{h its':RG}{n:Nat}{f:Array Value->Array Value}{j:Nat}(I:aL X a d H s)(o:H l=some (.lst g))(e:s.heap.get? l=some {cls:=.type "list",data:=.seq h.toArray n})(p:f h.toArray=its'.toArray)(r:aY c its')(t:c.length<=sizeLine):aL X a d (az H l (.lst c)) {s with heap:=s.heap.update l (Obj.mapSeq f),toks:=j}:=by have q:=PySem.IsL.update e f;rw[p]at q;refine I.write (x:=l) (e:=l) (by rw[o];exact trivial) (.inl rfl) (λv u k m=>(u1 s.heap (Obj.mapSeq f) (o_ k)).trans m) ⟨_,q⟩ ?_;exact⟨t,its',_,r,q⟩
def aL.lnew(I:aL X a d H s)(f:aY c e)(h:c.length<=sizeLine):aL X a d (az H s.heap.objs.size (.lst c)) {s with heap:=s.heap.push {cls:=.type "list",data:=.seq e.toArray},toks:=t'}:=I.laid (λ_ _ q=>b_ _ q) (f_ _) ⟨h,e,0,f,g_ _ rfl⟩
theorem aL.fresh(I:aL X a d H s):H s.heap.objs.size=none:=I.hok.fresh (f_ _)
def aL.lstM(I:aL X a d H s)(h:H l=some (.lst g)):g.length<=sizeLine/\∃(f:RG)(n:Nat),aY g f/\g.length=f.length/\s.heap.get? l=some {cls:=.type "list",data:=.seq f.toArray n}:=by obtain⟨z,f,n,r,e⟩:=I.hok l _ h;exact⟨z,f,n,r,r.length,e⟩
def AE{n:Nat}(h:n<=sizeLine):Builtin.List.listTooLong n=false:=by unfold Builtin.List.listTooLong;exact nk (by lia)
end
section
variable{X:Cx}
def Jl:V->List V->Hp->VK->Prop:=λx b H Q=>∃l a y,x=.ref l/\b=[y]/\H l=some (.lst a)/\a.length<sizeLine/\Q .non (az H l (.lst (a++[y])))
def dG:MtM X "list.append" Jl:=by intro b s i H x j v k Q I f g h;obtain⟨l,m,y,rfl,rfl,c,o,q⟩:=h;cases f;obtain⟨u,rfl,ru⟩:=g.one;obtain⟨z,a,n,r,p,e⟩:=I.lstM c;refine call_meets F.slot_list_append ⟨_,e,rfl⟩ F.entry_list_append (F.args_list_append_2 _ _) (PySem.list_append l a.toArray n u (by rw[j_];lia)) ⟨e,?_⟩;refine⟨.non,_,I.lset (its':=a++[u]) c e (by simp) (r.append (.cons ru .nil)) ?_,rfl,q⟩;rw[iA,List.length_singleton];lia
def Jk:V->List V->Hp->VK->Prop:=λx d H Q=>∃l b a c,x=.ref l/\d=[.ref b]/\H l=some (.lst a)/\H b=some (.lst c)/\a.length+c.length<=sizeLine/\Q .non (az H l (.lst (a++c)))
def xy:MtM X "list.extend" Jk:=by
 intro g s w H x y v A Q I k m h;obtain⟨l,b,B,C,rfl,rfl,i,o,D,q⟩:=h;cases k;obtain⟨u,rfl,ru⟩:=m.one;cases ru;obtain⟨z,c,n,r,E,e⟩:=I.lstM i;obtain⟨G,a,n2,r2,p,t⟩:=I.lstM o;have f:c.toArray.size+a.toArray.size<=sizeLine:=by rw[j_,j_];lia
 have d:¬(!c.toArray.isEmpty&&Builtin.List.listTooLong (c.toArray.size+a.toArray.size))=true:=by rw[AE f,Bool.and_false];exact lm
 refine call_meets F.slot_list_extend ⟨_,e,rfl⟩ F.entry_list_extend (F.args_list_extend_2 _ _) (AutoSeq1.list_extend_list_list_0 l c.toArray n b a.toArray n2 d (by rw[j_];lia) (by lia)) ⟨e,t,?_⟩
 refine⟨.non,_,I.lset (its':=c++a) i e (by simp) (r.append r2) ?_,rfl,q⟩;rw[iA];lia
def Pc:R2:=λx y H Q=>∃l b a c,x=.ref l/\y=.ref b/\H l=some (.lst a)/\H b=some (.lst c)/\a.length+c.length<=sizeLine/\∀p,H p=none->Q (.ref p) (az H p (.lst (a++c)))
def BY:lS X (binaryOp .Add) Pc:=by
 intro d s p H x y v u Q I f g h;obtain⟨l,b,t,w,rfl,rfl,i,j,A,q⟩:=h;cases f;cases g;obtain⟨z,c,n,r,B,e⟩:=I.lstM i;obtain⟨C,a,n2,r2,k,m⟩:=I.lstM j;refine PySem.P.add_list e m ?_ (by rw[j_,j_];lia);have o:c.toArray++a.toArray=(c++a).toArray:=by simp
 rw[o];exact⟨.ref _,_,I.lnew (t':=s.toks) (r.append r2) (by rw[iA];lia),rfl,q _ I.fresh⟩
def Pa:R2:=λx y H Q=>∃l k a,x=.ref l/\y=.int k/\H l=some (.lst a)/\-(2^63)<=k/\k<2^63/\a.length*k.toNat<=sizeLine/\∀p,H p=none->Q (.ref p) (az H p (.lst (List.replicate k.toNat a).flatten))
def JS(a:List c)(k:Nat):(List.replicate k a).flatten.length=k*a.length:=by induction k with|zero=>simp|succ k b=>rw[r_,Pz,iA,b,Nat.succ_mul,Nat.add_comm]
def Gg:lS X (binaryOp .Mult) Pa:=by
 intro p s J H x y v u Q I A B h;obtain⟨l,k,K,rfl,rfl,C,h1,h2,w,q⟩:=h;cases A;obtain⟨t,rfl⟩:=B;obtain⟨z,b,n,r,D,e⟩:=I.lstM C;have d:b.toArray.size*k.toNat<=sizeLine:=by rw[j_,<-D];exact w
 have f:¬b.toArray.size*k.toNat>(2^63-1)/8:=by
  have:(sizeLine:Nat)<=(2^63-1)/8:=by decide
  lia
 have g:¬(!Builtin.List.listFitsIndex k)=true:=by rw[fitsIndex_both h1 h2];exact lm
 have c:¬Builtin.List.listTooLong (b.toArray.size*k.toNat)=true:=by rw[AE d];exact lm
 have i:List.foldl (λj o=>j++o) #[] (List.replicate (if b.toArray.isEmpty=true then 0 else k.toNat) b.toArray)=(List.replicate k.toNat b).flatten.toArray:=by
  have E:∀m:Nat,List.foldl (λj o=>j++o) #[] (List.replicate m b.toArray)=(List.replicate m b).flatten.toArray:=λm=>by have:=xI b m [];rw[List.nil_append]at this;exact this
  rw[E];cases b with|nil=>simp|cons a L=>rw[ir (by simp)]
 refine wpAny_binaryOp_repeat_ref (T:="list") (U:="int") (by decide) ⟨_,e,rfl⟩ (λG=>typeIs_int G k t) noFill_list_mul F.fills_int_mul F.slot_int_rmul repeat_list F.slot_int_index.lookup (call_meets F.slot_int_rmul (typeIs_int s k t) F.entry_int_rmul (F.args_int_rmul_2 _ _) (int___rmul___int_list k t l b.toArray n) ⟨e,rfl,⟨_,e,rfl⟩,call_meets F.slot_list_mul ⟨_,e,rfl⟩ F.entry_list_mul (F.args_list_mul_2 _ _) (AutoListH.list___mul___list_int_3 l b.toArray n k t g f c) ⟨e,?_⟩⟩)
 rw[i];exact⟨.ref _,_,I.lnew (t':=s.toks) (r.rep k.toNat) (by rw[JS,Nat.mul_comm];exact w),rfl,q _ I.fresh⟩
end
section
variable{prog:RH}{w:World}{A:Around}{E:RD}{s:Shared}
end
section
variable{X:Cx}
end
end L2
namespace L2
open PySem PySem.Spec PyProof.Rows
section
variable{c:Type}[DecidableEq c]
def aW(a:List (c×V))(k:c):Option V:=(a.find? λkv=>decide (kv.1=k)).map (·.2)
def c7(a:List (c×V))(k:c)(v:V):List (c×V):=if(a.any λkv=>decide (kv.1=k))=true then a.map (λkv=>if kv.1=k then(kv.1,v)else kv)else a++[(k,v)]
def dH(a:List (c×V))(k:c):List (c×V):=a.filter λkv=>decide (kv.1≠k)
def cn{p:c×V}{r:List (c×V)}{k:c}(e:p.1=k):aW (p::r) k=some p.2:=by simp[aW,so,e]
def bH{p:c×V}{r:List (c×V)}{k:c}(e:¬p.1=k):aW (p::r) k=aW r k:=by simp[aW,so,e]
theorem mf(k:c):∀a:List (c×V),(a.any λkv=>decide (kv.1=k))=(aW a k).isSome
 |[]=>rfl|p::r=>by
  rw[w1]
  by_cases e:p.1=k
  ·simp only[cn e,m3 e,Bool.true_or,Option.isSome_some]
  ·rw[bH e,nk e,Bool.false_or];exact mf k r
theorem zO(k j:c)(y:V):∀a:List (c×V),aW (a.map λkv=>if kv.1=k then(kv.1,y)else kv) j=(aW a j).map λx=>if j=k then y else x
 |[]=>rfl|p::r=>by
  have b:=zO k j y r;rw[np]
  by_cases h:p.1=k
  ·rw[i_ h]
   by_cases e:p.1=j
   ·rw[cn (p:=(p.1,y)) e,cn e,PV,i_ (e.symm.trans h)]
   ·rw[bH (p:=(p.1,y)) e,bH e,b]
  ·rw[ir h]
   by_cases e:p.1=j
   ·rw[cn (p:=p) e,cn e,PV,ir (λz=>h (e.trans z))]
   ·rw[bH (p:=p) e,bH e,b]
theorem xj(k j:c)(y:V):∀a:List (c×V),aW a k=none->aW (a++[(k,y)]) j=if j=k then some y else aW a j
 |[],_=>by
  by_cases e:k=j
  ·rw[i_ e.symm];exact cn (p:=(k,y)) e
  ·rw[ir (λz=>e z.symm)];exact bH (p:=(k,y)) e|p::r,hn=>by
  rw[List.cons_append];have b:¬p.1=k:=λz=>by rw[cn z]at hn;cases hn
  rw[bH b]at hn;have d:=xj k j y r hn
  by_cases e:p.1=j
  ·rw[cn e,cn e,ir (λz=>b (e.trans z))]
  ·rw[bH e,bH e,d]
def jn(b:List (c×V))(k j:c)(y:V):aW (c7 b k y) j=if j=k then some y else aW b j:=by
 unfold c7
 by_cases a:(b.any λkv=>decide (kv.1=k))=true
 ·rw[i_ a,zO];rw[mf]at a
  by_cases e:j=k
  ·obtain⟨x,d⟩:=H_.mp a;rw[i_ e,e,d,PV,i_ rfl]
  ·rw[ir e];cases aW b j with|none=>rfl|some x=>rw[PV,ir e]
 ·rw[ir a];refine xj k j y b ?_;rw[mf]at a;cases q:aW b k with|none=>rfl|some x=>rw[q]at a;exact(a rfl).elim
def fK(a:List (c×V))(k:c)(v:V):(c7 a k v).length<=a.length+1:=by
 unfold c7
 split
 ·rw[c_];lia
 ·rw[iA,oi,List.length_nil];lia
def pE{a:List (c×V)}{k:c}(v:V)(h:aW a k=none):c7 a k v=a++[(k,v)]:=by unfold c7;rw[mf,h];exact ir (by decide)
def lc.isSome_eq(r:lc o u):o.isSome=u.isSome:=by cases o with
 |none=>cases u with|none=>rfl|some _=>exact(show False from r).elim
 |some _=>cases u with|none=>exact(show False from r).elim|some _=>rfl
theorem lc.getD(r:lc o u)(a:aV d b):aV (o.getD d) (u.getD b):=by cases o with
 |none=>cases u with|none=>exact a|some _=>exact(show False from r).elim
 |some _=>cases u with|none=>exact(show False from r).elim|some _=>exact r
def KV.val{a:List (c×V)}{g:List (c×Value)}(r:KV a g)(k:c):lc (aW a k) (valueAt g k):=by
 unfold KV at r
 induction r with|nil=>exact True.intro|@cons p q j d h t i=>
  obtain⟨h1,h2⟩:=h
  by_cases e:p.1=k
  ·have f:q.1=k:=h1.symm.trans e;have b:valueAt (q::d) k=some q.2:=by simp[valueAt,so,f]
   rw[cn e,b];exact h2
  ·have f:¬q.1=k:=λz=>e (h1.trans z);have b:valueAt (q::d) k=valueAt d k:=by simp[valueAt,so,f]
   rw[bH e,b];exact i
theorem KV.any(r:KV a b)(k:c):(a.any λkv=>decide (kv.1=k))=b.any λkv=>decide (kv.1=k):=by
 unfold KV at r
 induction r with|nil=>rfl|cons h t d=>rw[w1,w1,d,h.1]
def KV.repl(r:KV a b)(k:c)(d:aV y u):KV (a.map λkv=>if kv.1=k then(kv.1,y)else kv) (b.map λkv=>if kv.1=k then(kv.1,u)else kv):=by
 unfold KV at r⊢
 induction r with|nil=>exact .nil|@cons p q g i h t f=>
  rw[np,np];refine .cons ?_ f;obtain⟨h1,h2⟩:=h
  by_cases e:p.1=k
  ·rw[i_ e,i_ (h1.symm.trans e)];exact⟨h1,d⟩
  ·rw[ir e,ir (λz=>e (h1.trans z))];exact⟨h1,h2⟩
def KV.put(r:KV a b)(k:c)(d:aV y u):KV (c7 a k y) (stored b k u):=by
 unfold c7 stored;rw[r.any k]
 by_cases e:(b.any λkv=>decide (kv.1=k))=true
 ·rw[i_ e,i_ e];exact r.repl k d
 ·rw[ir e,ir e];exact Paired.snoc r ⟨rfl,d⟩
def KV.drop(r:KV d g)(k:c):KV (dH d k) (without g k):=by
 unfold KV at r⊢;unfold dH without
 induction r with|nil=>exact .nil|@cons p q j l h t f=>
  obtain⟨h1,h2⟩:=h;rw[QC,QC]
  by_cases e:p.1=k
  ·have a:¬decide (p.1≠k)=true:=by simp[e]
   have b:¬decide (q.1≠k)=true:=by simp[h1.symm.trans e]
   rw[ir a,ir b];exact f
  ·have i:¬q.1=k:=λz=>e (h1.trans z);have a:decide (p.1≠k)=true:=by simp[e]
   have b:decide (q.1≠k)=true:=by simp[i]
   rw[i_ a,i_ b];exact .cons ⟨h1,h2⟩ f
theorem KV.length(r:KV a b):a.length=b.length:=Paired.length r
def Ba(a:List (c×V))(k:c):(dH a k).length<=a.length:=v_ _ _
end
def pT(r:aV (kV k) u):(aK P w).is k u=true:=by cases k with|inl i=>obtain⟨t,e⟩:=(show∃t,u=Value.int i t from r);subst e;exact AK P w i t|inr x=>obtain⟨t,e⟩:=(show∃t,u=Value.str x t from r);subst e;exact sL P w x t
theorem rO:∀{a:List bL}{b:RG},aY (a.map kV) b->ItemsAre (aK P w) a b|[],_,r=>by rw[Q9]at r;cases r;exact .nil|k::a,_,r=>by rw[np]at r;cases r with|cons h t=>exact .cons (pT h) (rO t)
abbrev KT(H:Hp):List (List bL×V)->List (List bL×Addr×Value)->Prop:=Paired λp q=>p.1=q.1/\H q.2.1=some (.tup (p.1.map kV))/\aV p.2 q.2.2
def KT.val{H:Hp}{a:List (List bL×V)}{f:List (List bL×Addr×Value)}(r:KT H a f)(k:List bL):lc (aW a k) ((atKey f k).map (·.2)):=by induction r with|nil=>exact True.intro|@cons p q i c h t g=>
  obtain⟨h1,_,h2⟩:=h
  by_cases e:p.1=k
  ·have d:q.1=k:=h1.symm.trans e;have b:atKey (q::c) k=some q.2:=by simp[atKey,so,d]
   rw[cn e,b];exact h2
  ·have d:¬q.1=k:=λz=>e (h1.trans z);have b:atKey (q::c) k=atKey c k:=by simp[atKey,so,d]
   rw[bH e,b];exact g
def KT.repl(r:KT H a b)(k:List bL)(c:aV y u):KT H (a.map λkv=>if kv.1=k then(kv.1,y)else kv) (b.map (putAt k u)):=by induction r with|nil=>exact .nil|@cons p q f g h t d=>
  rw[np,np];refine .cons ?_ d;obtain⟨h1,h2,h3⟩:=h;unfold putAt
  by_cases e:p.1=k
  ·rw[i_ e,i_ (h1.symm.trans e)];exact⟨h1,h2,c⟩
  ·rw[ir e,ir (λz=>e (h1.trans z))];exact⟨h1,h2,h3⟩
def KT.put(r:KT H a c)(k:List bL)(f:H b=some (.tup (k.map kV)))(d:aV y u):KT H (c7 a k y) (storedH c k b u):=by
 have e:(a.any λkv=>decide (kv.1=k))=(atKey c k).isSome:=by rw[mf,(r.val k).isSome_eq,Qp]
 unfold c7 storedH;rw[e]
 by_cases q:(atKey c k).isSome=true
 ·rw[i_ q,i_ q];exact r.repl k d
 ·rw[ir q,ir q];exact Paired.snoc r ⟨rfl,f,d⟩
def KT.keeps(r:KT H a d)(e:∀b c,H b=some (.tup c)->f b=some (.tup c)):KT f a d:=Paired.mapP r λ_ _ z=>⟨z.1,e _ _ z.2.1,z.2.2⟩
section
variable{P:RH}{w:World}{H:Hp}{h:Heap}{a:Addr}
def KN(ok:me P w H h)(e:Rd H a u):c5 P w H h a u:=e.ok ok
def sQ(ok:me P w H h)(e:Rd H a (.dK b)):b.length<=sizeLine/\(a==sysModules)=false/\∃c,KV b c/\h.DictOf (aK P w) a c:=show c5 P w H h a (.dK b)from KN ok e
def K1(ok:me P w H h)(e:H a=some (.dK b)):b.length<=sizeLine/\(a==sysModules)=false/\∃c,KV b c/\h.DictOf (aK P w) a c:=sQ ok (.inl e)
def oJ(ok:me P w H h)(e:H a=some (.tup (c.map kV))):(tupleKind (aK P w)).is h c a:=by obtain⟨_,b,r,o,h1,h2,n,h3⟩:=(show c5 P w H h a (.tup (c.map kV))from ok a _ e);exact⟨o,b.toArray,n,h1,h2,h3,by simpa using rO r⟩
def sP(ok:me P w H h)(e:Rd H a (.dT b)):b.length<=sizeLine/\(a==sysModules)=false/\∃d,KT H b d/\h.DictOfH (tupleKind (aK P w)) a d:=by
 obtain⟨z,y,d,r,o,g,i,h1,h2,h3,h4,h5⟩:=(show c5 P w H h a (.dT b)from KN ok e);refine⟨z,y,d,r,o,g,i,h1,h2,h3,h4,λx c=>?_,h5⟩;have all:∀{l:List (List bL×V)}{m:List (List bL×Addr×Value)},KT H l m->∀x∈m,(tupleKind (aK P w)).is h x.1 x.2.1:=by
  intro l m q
  induction q with|nil=>intro x c;exact nomatch c|@cons p q k n f t j=>
   intro x c;rcases pv.mp c with e|c
   ·subst e;exact oJ ok (by rw[<-f.1];exact f.2.1)
   ·exact j x c
 exact all r x c
def Oz(ok:me P w H h)(e:H a=some (.dT b)):b.length<=sizeLine/\(a==sysModules)=false/\∃c,KT H b c/\h.DictOfH (tupleKind (aK P w)) a c:=sP ok (.inl e)
end
def d0(H:Hp)(a:Addr)(y:V)(r:Option V):Prop:=(∃c k,Rd H a (.dK c)/\y=kV k/\r=aW c k)\/∃c k b,Rd H a (.dT c)/\y=.ref b/\H b=some (.tup (k.map kV))/\r=aW c k
def KI(H:Hp)(a:Addr)(y v:V)(d:Hp):Prop:=(∃c k,H a=some (.dK c)/\y=kV k/\c.length<sizeLine/\d=az H a (.dK (c7 c k v)))\/∃c k b,H a=some (.dT c)/\y=.ref b/\H b=some (.tup (k.map kV))/\c.length<sizeLine/\d=az H a (.dT (c7 c k v))
theorem d0.k{H:Hp}{a:Addr}{b:List (bL×V)}{k:bL}(e:H a=some (.dK b)):d0 H a (kV k) (aW b k):=.inl ⟨b,k,.inl e,rfl,rfl⟩
theorem KI.k{H:Hp}{a:Addr}{b:List (bL×V)}{k:bL}{v:V}(e:H a=some (.dK b))(c:b.length<sizeLine):KI H a (kV k) v (az H a (.dK (c7 b k v))):=.inl ⟨b,k,e,rfl,c,rfl⟩
section
variable{X:Cx}{d:RE}{f:St}{H:Hp}{s:Shared}{a:Addr}{y v:V}{u r:Value}{o:Option V}{A:Around}{E:RD}
def aL.big(I:aL X d f H s):sysModules<s.heap.objs.size:=by have h:mainGlobals<s.heap.objs.size:=(I.mod.glob.keeps I.bk).lt;exact E_ (by decide) h
def EW(C:A.units+1<cLine)(I:aL X d f H s)(g:d0 H a y (some v))(x:aV y u)(h:∀j B,aL X d f H B->aV v j->Q j B):wpAny (model X.prog X.w) A (getItem (.ref a) u) Q E s:=by
 rcases g with⟨m,k,e,n,l⟩|⟨m,k,b,e,n,D,l⟩
 ·subst n;obtain⟨z,hd,F,c,dd⟩:=sQ I.hok e;obtain⟨j,q,i⟩:=lc.some_of (v:=v) (o:=valueAt F k) (by rw[l];exact c.val k);exact wpAny_getItem_of (pT x) dd.mapOf q (h j _ (I.tok _) i)
 ·subst n;cases(show u=Value.ref b from x);obtain⟨z,hd,G,c,dd⟩:=sP I.hok e;obtain⟨j,q,i⟩:=lc.some_of (v:=v) (o:=(atKey G k).map (·.2)) (by rw[l];exact c.val k);obtain⟨p,J,t⟩:=Option.map_eq_some_iff.mp q;refine wpAny_getItem_heap (L_ C) (oJ I.hok D) dd J ?_;rw[t];exact h j _ (I.tok _) i
def Pk(t:A.units+1<cLine)(I:aL X d f H s)(g:d0 H a y o)(n:aV y u)(h:∀p,aL X d f H p->Q (.bool o.isSome) p):wpAny (model X.prog X.w) A (compareOp .In u (.ref a)) Q E s:=by
 rcases g with⟨i,k,e,j,l⟩|⟨i,k,b,e,j,m,l⟩
 ·subst j;obtain⟨z,hd,x,c,dd⟩:=sQ I.hok e;refine wpAny_in_of (pT n) hd dd.mapOf ?_;rw[<-(c.val k).isSome_eq,<-l];exact h _ (I.tok _)
 ·subst j;cases(show u=Value.ref b from n);obtain⟨z,hd,B,c,dd⟩:=sP I.hok e;refine wpAny_in_heap (L_ t) (oJ I.hok m) hd dd ?_;have q:=(c.val k).isSome_eq;rw[Qp]at q;rw[<-q,<-l];exact h _ (I.tok _)
def Kj(t:A.units+1<cLine)(I:aL X d f H s)(g:d0 H a y o)(n:aV y u)(h:∀p,aL X d f H p->Q (.bool (!o.isSome)) p):wpAny (model X.prog X.w) A (compareOp .NotIn u (.ref a)) Q E s:=by
 rcases g with⟨i,k,e,j,l⟩|⟨i,k,b,e,j,m,l⟩
 ·subst j;obtain⟨z,hd,x,c,dd⟩:=sQ I.hok e;refine wpAny_notIn_of (pT n) hd dd.mapOf ?_;rw[<-(c.val k).isSome_eq,<-l];exact h _ (I.tok _)
 ·subst j;cases(show u=Value.ref b from n);obtain⟨z,hd,B,c,dd⟩:=sP I.hok e;refine wpAny_notIn_heap (L_ t) (oJ I.hok m) hd dd ?_;have q:=(c.val k).isSome_eq;rw[Qp]at q;rw[<-q,<-l];exact h _ (I.tok _)
def ub(I:aL X d f H s)(c:OE (H a))(g:Heap.SameBut a s.heap h')(h:∃q,h'.get? a=some q)(new:c5 X.prog X.w (az H a ob) h' a ob):aL X d f (az H a ob) {s with heap:=h',toks:=j}:=I.write (x:=a) (e:=a) c (.inl rfl) (λb q i z=>(g.2 b i).trans z) h new
def Hw(z:b.length<=sizeLine)(hd:(a==sysModules)=false)(c:KV b e)(dd:h'.DictOf (aK P w) a e):c5 P w g h' a (.dK b):=⟨z,hd,e,c,dd⟩
def EV(M:A.units+1<cLine)(I:aL X d f H s)(g:KI H a y v N)(F:aV y u)(G:aV v r)(h:∀J,aL X d f N J->Q () J):wpAny (model X.prog X.w) A (setItem (.ref a) u r) Q E s:=by
 rcases g with⟨i,k,e,p,l,t⟩|⟨i,k,b,e,p,K,l,t⟩
 ·subst p t;obtain⟨z,hd,O,j,dd⟩:=K1 I.hok e;have x:O.length<=sizeLine:=by rw[<-j.length];exact z
  have B:(c7 i k v).length<=sizeLine:=by have:=fK i k v;lia
  refine wpAny_setItem_pairs (hsz:=x) (pT F) dd λh' m D=>h _ ?_;have P:∃q,h'.get? a=some q:=let⟨q,_,_,n,_⟩:=m;⟨q,n⟩;exact ub I (by rw[e];exact True.intro) D P (Hw B hd (j.put k G) m)
 ·subst p t;cases(show u=Value.ref b from F);obtain⟨z,hd,R,j,dd⟩:=Oz I.hok e;have x:R.length<=sizeLine:=by rw[<-Paired.length j];exact z
  have B:(c7 i k v).length<=sizeLine:=by have:=fK i k v;lia
  refine wpAny_setItem_heap (hsz:=x) (L_ M) (oJ I.hok K) dd λh' m D=>h _ ?_;obtain⟨q,S,T,n,h2,h3,h4,_,h5⟩:=m;refine ub I (by rw[e];exact True.intro) D ⟨q,n⟩ ⟨B,hd,_,(j.put k K G).keeps λc U L=>?_,q,S,T,n,h2,h3,h4,h5⟩;rw[am (N7 L e (nofun))];exact L
end
section
variable{X:Cx}{c:RE}{d:St}{H:Hp}{s:Shared}{a:Addr}{b:List (bL×V)}{k:bL}{u:Value}{A:Around}{E:RD}
def OA(I:aL X c d H s)(e:H a=some (.dK b))(n:aV (kV k) u)(l:aW b k=some v)(hm:f=[]\/∃x,f=[x])(h:∀j r,aL X c d (az H a (.dK (dH b k))) r->aV v j->Q j r):wpAny (model X.prog X.w) A (call (.builtin "dict.pop") (.ref a::u::f)) Q E s:=by
 obtain⟨z,hd,y,g,dd⟩:=K1 I.hok e;obtain⟨j,B,p⟩:=lc.some_of (v:=v) (o:=valueAt y k) (by rw[<-l];exact g.val k);have C:(keyPart u).isSome=true:=by cases k with|inl i=>obtain⟨t,q⟩:=(show∃t,u=Value.int i t from n);subst q;rfl|inr x=>obtain⟨t,q⟩:=(show∃t,u=Value.str x t from n);subst q;rfl
 have D:argsOk "dict.pop" ⟨.ref a::u::f,[]⟩:=by
  rcases hm with q|⟨x,q⟩
  ·subst q;exact PySem.F.args_dict_pop_2 _ _
  ·subst q;exact PySem.F.args_dict_pop_3 _ _ _
 refine M_ PySem.F.slot_dict_pop dd.typeIs PySem.F.entry_dict_pop D (meets_dict_pop_there (aK X.prog X.w) a (pT n) f hm C) ⟨y,j,dd,by rw[<-g.length];exact z,B,λh' m G=>h j _ ?_ p⟩
 have J:∃q,h'.get? a=some q:=let⟨q,_,_,K,_⟩:=m;⟨q,K⟩;exact ub I (by rw[e];exact True.intro) G J (Hw (mu (Ba b k) z) hd (g.drop k) m)
end
def OD(i:Expr):Prop:=∀a iv,subscripted i false a iv=operate [a,iv] (getItem a iv)
def IE{prog:RH}{w:World}{A:Around}{E:RD}{s:Shared}{env:Env}{b a:Expr}{j:Pos}{T id:String}{Q:RD}(l:typeLookup (.type T) "__getitem__"=pure (some (.builtin id)))(n:OD a)(h:wpAny (model prog w) A (eval b env) (λo s₁=>wpAny (model prog w) A (eval a env) (λi c=>c.TypeIs o T/\wpAny (model prog w) A (getItem o i) Q E c) E s₁) E s):wpAny (model prog w) A (eval (.Subscript b a j) env) Q E s:=by
 refine Subscript_ (wpAny_mono h (λo s₁ f=>wpAny_mono f (λi c d=>?_) λ_ _ x=>x) λ_ _ x=>x);obtain⟨k,d⟩:=d;unfold subscriptTail;refine a_ ?_;rw[getitemInPython_of_ne k.not_modules];refine a_ (QG k l ?_);have fin:wpAny (model prog w) A (subscripted a false o i) (λr e=>wpAny (model prog w) A (letTemporaryGo b o r>>=λ_=>pure r) Q E e) E c:=by rw[n o i];exact wpAny_operating (wpAny_mono d (λr e g=>a_ (wpAny_letTemporaryGo (e_ g))) λ_ _ x=>x)
 first|exact e_ (a_ fin)|exact a_ (e_ (a_ fin))|exact a_ fin
def Bb(I:aL X d f H s)(g:d0 H a y o):s.TypeIs (.ref a) "dict":=by
 rcases g with⟨c,k,e,_,_⟩|⟨c,k,b,e,_,_,_⟩
 ·obtain⟨_,_,h,_,dd⟩:=sQ I.hok e;exact dd.typeIs
 ·obtain⟨_,_,i,_,dd⟩:=sP I.hok e;exact dd.typeIs
def NM(d ty:TE):TE:=λb H Q=>d b H λx e=>ty b e λy c=>∃a v,x=.ref a/\d0 c a y (some v)/\Q v c
def O5(ty d:TE):TE:=λb H Q=>ty b H λy e=>d b e λx c=>∃a o,x=.ref a/\d0 c a y o/\Q (.bl o.isSome) c
def ID(ty d:TE):TE:=λb H Q=>ty b H λy e=>d b e λx c=>∃a o,x=.ref a/\d0 c a y o/\Q (.bl (!o.isSome)) c
section
variable{X:Cx}{o i e c:Expr}{d f j:Pos}{b ty l:TE}
def eC(q:X.A.units+1<cLine)(r:PE X o b)(hi:PE X i ty)(t:OD i):PE X (.Subscript o i d) (NM b ty):=by intro k s n H Q I h;refine IE PySem.F.slot_dict_getitem.lookup t (cy (r k s n H _ I h) λu w⟨x,z,I1,B,C⟩=>cy (hi k w n z _ I1 C) λiv K⟨y,D,p,E,a,v,ex,g,G⟩=>?_);subst ex;obtain rfl:u=Value.ref a:=B;exact⟨Bb p g,EW q p g E λL M J m=>⟨v,D,J,m,G⟩⟩
def BW(n:X.A.units+1<cLine)(hi:PE X i ty)(p:PE X o b):PC X .In i o (O5 ty b):=by intro k s m H Q I h;refine cy (hi k s m H _ I h) λiv q⟨y,r,I1,t,v⟩=>cy (p k q m r _ I1 v) λu F⟨x,w,z,B,a,C,ex,g,D⟩=>?_;subst ex;obtain rfl:u=Value.ref a:=B;exact Pk n z g t λG E=>⟨.bl C.isSome,w,E,rfl,D⟩
def qR(n:X.A.units+1<cLine)(hi:PE X i ty)(p:PE X o b):PC X .NotIn i o (ID ty b):=by intro k s m H Q I h;refine cy (hi k s m H _ I h) λiv q⟨y,r,I1,t,v⟩=>cy (p k q m r _ I1 v) λu F⟨x,w,z,B,a,C,ex,g,D⟩=>?_;subst ex;obtain rfl:u=Value.ref a:=B;exact Kj n z g t λG E=>⟨.bl (!C.isSome),w,E,rfl,D⟩
end
def Hx(h:Heap)(a:sysModules<h.objs.size):c5 P w H (h.push {cls:=.type "dict",data:=.dict #[]}) h.objs.size (.dK []):=⟨m_ _,I_.mpr (o_ (k4 a)),[],.nil,Heap.DictOf.new h⟩
def Lv:TE:=λ_ H Q=>∀p,H p=none->Q (.ref p) (az H p (.dK []))
section
variable{X:Cx}{b:Pos}
def iJ:PE X (.Dict [] [] b) Lv:=λc s d H Q I h=>wpAny_Dict_empty ⟨.ref s.heap.objs.size,_,I.laid (a:=s.heap.objs.size) (o:=.dK []) (t':=s.toks) (λ_ _ q=>b_ _ q) (f_ _) (Hx s.heap I.big),rfl,h _ (I.hok.fresh (f_ _))⟩
end
structure M1(X:Cx)(o:Expr)(m:Str)(apos:Pos)(e:Expr)(cpos:Pos):Prop where
 base:attributeBase o m X.env (eval o X.env)=eval o X.env
 few:((backTo cpos (starEach [e] X.env)).all (λx=>!x.1)&&(backToKw cpos (keywordEach [] X.env)).all (λx=>x.1.isSome)&&decide (([e]:RJ).length+([]:List Keyword).length+(if([]:List Keyword).isEmpty then 0 else 1)<30))=true
 line:(apos.endLine==cpos.line)=true
 trees:backTo cpos (starEach [e] X.env)=[(false,eval e X.env)]
structure M2(X:Cx)(o:Expr)(m:Str)(apos:Pos)(e f:Expr)(cpos:Pos):Prop where
 base:attributeBase o m X.env (eval o X.env)=eval o X.env
 few:((backTo cpos (starEach [e,f] X.env)).all (λx=>!x.1)&&(backToKw cpos (keywordEach [] X.env)).all (λx=>x.1.isSome)&&decide (([e,f]:RJ).length+([]:List Keyword).length+(if([]:List Keyword).isEmpty then 0 else 1)<30))=true
 line:(apos.endLine==cpos.line)=true
 trees:backTo cpos (starEach [e,f] X.env)=[(false,eval e X.env),(false,eval f X.env)]
def OY(H:Hp)(a:Addr):Prop:=(∃b,Rd H a (.dK b))\/∃b,Rd H a (.dT b)
def Cz(I:aL X f g H s)(d:OY H a):s.TypeIs (.ref a) "dict"/\(∀b,Value.ref a=.ref b->∃ob,s.heap.get? b=some ob/\ob.dict=none)/\(a==sysModules)=false:=by
 rcases d with⟨c,e⟩|⟨c,e⟩
 ·obtain⟨_,hd,h,_,dd⟩:=sQ I.hok e;refine⟨dd.typeIs,λb q=>?_,hd⟩;cases q;obtain⟨ob,_,_,h1,h2,_⟩:=dd;exact⟨ob,h1,h2.2.1⟩
 ·obtain⟨_,hd,i,_,dd⟩:=sP I.hok e;refine⟨dd.typeIs,λb q=>?_,hd⟩;cases q;obtain⟨ob,_,_,h1,h2,_⟩:=dd;exact⟨ob,h1,h2.2.1⟩
section
variable{X:Cx}{c:RE}{f:St}{H:Hp}{s:Shared}{a:Addr}{y d:V}{u r:Value}{o:Option V}{A:Around}{E:RD}
def MM(t:A.units+1<cLine)(I:aL X c f H s)(g:d0 H a y o)(n:aV y u)(h:∀p q,aL X c f H q->aV (o.getD .non) p->Q p q):wpAny (model X.prog X.w) A (call (.builtin "dict.get") [.ref a,u]) Q E s:=by
 rcases g with⟨j,k,e,m,l⟩|⟨j,k,b,e,m,v,l⟩
 ·subst m;obtain⟨z,hd,B,i,dd⟩:=sQ I.hok e;refine M_ PySem.F.slot_dict_get dd.typeIs PySem.F.entry_dict_get (PySem.F.args_dict_get_2 _ _) (meets_dict_get (aK X.prog X.w) a (pT n) hd) ⟨_,dd.mapOf,h _ _ (I.tok _) ?_⟩;rw[l];exact(i.val k).getD rfl
 ·subst m;cases(show u=Value.ref b from n);obtain⟨z,hd,x,i,dd⟩:=sP I.hok e;refine M_ PySem.F.slot_dict_get dd.typeIs PySem.F.entry_dict_get (PySem.F.args_dict_get_2 _ _) (meetsH_dict_get (tupleKind (aK X.prog X.w)) a b hd) ⟨L_ t,k,x,oJ I.hok v,dd,h _ _ (I.tok _) ?_⟩;rw[l];exact(i.val k).getD rfl
def ML(v:A.units+1<cLine)(I:aL X c f H s)(g:d0 H a y o)(n:aV y u)(p:aV d r)(h:∀q t,aL X c f H t->aV (o.getD d) q->Q q t):wpAny (model X.prog X.w) A (call (.builtin "dict.get") [.ref a,u,r]) Q E s:=by
 rcases g with⟨j,k,e,m,l⟩|⟨j,k,b,e,m,x,l⟩
 ·subst m;obtain⟨z,hd,C,i,dd⟩:=sQ I.hok e;refine M_ PySem.F.slot_dict_get dd.typeIs PySem.F.entry_dict_get (PySem.F.args_dict_get_3 _ _ _) (meets_dict_get_default (aK X.prog X.w) a (pT n) hd r) ⟨_,dd.mapOf,h _ _ (I.tok _) ?_⟩;rw[l];exact(i.val k).getD p
 ·subst m;cases(show u=Value.ref b from n);obtain⟨z,hd,B,i,dd⟩:=sP I.hok e;refine M_ PySem.F.slot_dict_get dd.typeIs PySem.F.entry_dict_get (PySem.F.args_dict_get_3 _ _ _) (meetsH_dict_get_default (tupleKind (aK X.prog X.w)) a b hd r) ⟨L_ v,k,B,oJ I.hok x,dd,h _ _ (I.tok _) ?_⟩;rw[l];exact(i.val k).getD p
end
def Lx(e ty:TE):TE:=λb H Q=>e b H λx c=>∃a,x=.ref a/\OY c a/\ty b c λy d=>∃o,d0 d a y o/\Q (o.getD .non) d
def Lw(e ty f:TE):TE:=λb H Q=>e b H λx c=>∃a,x=.ref a/\OY c a/\ty b c λy g=>f b g λz d=>∃o,d0 d a y o/\Q (o.getD z) d
def Ls(f ty:TE):TE:=λc H Q=>f c H λx d=>∃a,x=.ref a/\OY d a/\ty c d λy e=>∃b k v,e a=some (.dK b)/\y=kV k/\aW b k=some v/\Q v (az e a (.dK (dH b k)))
section
variable{X:Cx}{o e f:Expr}{c b:Pos}{i ty j:TE}
def uR(p:X.A.units+1<cLine)(q:PE X o i)(r:PE X e ty)(m:M1 X o "get" c e b):PE X (.Call (.Attribute o "get" c) [e] [] b) (Lx i ty):=by intro k s n H Q I h;refine P2 m.base m.few m.line PySem.F.plainAttrs_dict PySem.F.slot_dict_get PySem.F.type_dict_get (cy (q k s n H _ I h) λu t⟨x,v,I1,w,a,ex,d,z⟩=>?_);subst ex;obtain rfl:u=Value.ref a:=w;obtain⟨B,C,_⟩:=Cz I1 d;refine⟨B,C,?_⟩;rw[m.trees];refine s_ rfl (yl (sm (cy (r k t n v _ I1 z) λiv L⟨y,D,E,G,M,g,J⟩=>z3 ?_)));exact MM p E g G λN O K l=>⟨_,D,K,l,J⟩
def uQ(p:X.A.units+1<cLine)(q:PE X o i)(r:PE X e ty)(t:PE X f j)(m:M2 X o "get" c e f b):PE X (.Call (.Attribute o "get" c) [e,f] [] b) (Lw i ty j):=by
 intro k s l H Q I h;refine P2 m.base m.few m.line PySem.F.plainAttrs_dict PySem.F.slot_dict_get PySem.F.type_dict_get (cy (q k s l H _ I h) λu v⟨x,w,I1,B,a,ex,d,C⟩=>?_);subst ex;obtain rfl:u=Value.ref a:=B;obtain⟨D,E,_⟩:=Cz I1 d;refine⟨D,E,?_⟩;rw[m.trees];refine s_ rfl (yl (sm (cy (r k v l w _ I1 C) λiv G⟨y,J,K,L,M⟩=>sm (cy (t k G l J _ K M) λT U⟨z,N,O,P,V,g,R⟩=>z3 ?_))))
 exact ML p O g L P λW Y S n=>⟨_,N,S,n,R⟩
def Ar(q:PE X o i)(r:PE X e ty)(m:M1 X o "pop" c e b):PE X (.Call (.Attribute o "pop" c) [e] [] b) (Ls i ty):=by intro g s p H Q I h;refine P2 m.base m.few m.line PySem.F.plainAttrs_dict PySem.F.slot_dict_pop PySem.F.type_dict_pop (cy (q g s p H _ I h) λu t⟨x,w,I1,z,a,ex,d,A⟩=>?_);subst ex;obtain rfl:u=Value.ref a:=z;obtain⟨B,C,_⟩:=Cz I1 d;refine⟨B,C,?_⟩;rw[m.trees];refine s_ rfl (yl (sm (cy (r g t p w _ I1 A) λiv N⟨y,O,D,E,G,k,v,J,K,l,L⟩=>z3 ?_)));subst K;exact OA D J E l (.inl rfl) λP R M n=>⟨v,_,M,n,L⟩
end
section
variable{X:Cx}{b:RE}{d:St}{H:Hp}{s:Shared}{a:Addr}{c:List (bL×V)}{A:Around}{E:RD}
end
section
variable{X:Cx}{b:RE}{c:St}{H:Hp}{s:Shared}{a:Addr}{y:V}{u:Value}{A:Around}{E:RD}
end
end L2
namespace Att
open PySem PySem.W PySem.Calls PyProof.Rows
def tV:∀(ns:RN)(c:RG),WellAll P h c (ns.map WData.int)->IntsAre c ns:=by
 intro ns
 induction ns with|nil=>intro c w;rw[Q9]at w;cases w;exact .nil|cons n ns d=>intro c w;rw[np]at w;cases w with|cons a b=>cases a;exact .cons _ _ (d _ b)
def Eg{l:OpenLaw}{n:Nat}(hn:l.most=some n){P:Params}{h:Heap}{args:List WData}{b:RG}(c:l.row.toRowW.claim.pre args=true)(g:WellAll P h b args):∃a j ns,b=[Value.ref a]/\args=[WData.list (ns.map WData.int)]/\h.get? a=some {cls:=.type "list",data:=.seq j.toArray}/\IntsAre j ns/\ns.length<=n:=by
 have i:WShape.hasAll [] args [.list .int]=true:=(pre_splitW c).1;have hc:l.pre.holds [] {args:=args}=true:=(pre_splitW c).2;obtain⟨d,r,rfl,h1,h2⟩:=hasAllW_cons i;obtain rfl:=hasAllW_nil h2;obtain⟨s,rfl,h3⟩:=hasW_list h1;obtain⟨ns,rfl⟩:=items_int h3;have e:ns.length<=n:=by
  unfold OpenLaw.pre at hc;have h4:(WTm.not (.lt (.lit (.int (n:Int))) (.len (.arg 0)))).holds [] {args:=[.list (ns.map .int)]}=true:=by have h4:=(holds_andW hc).1;rw[hn]at h4;exact h4
  have h5:=condW_of h4 (w_not (w_lt w_lit (w_len_list (w_arg rfl))));rw[c_]at h5;refine PK λq=>?_;have k:(n:Int)<((ns.length:Nat):Int):=by lia
  first|(rw[m3 k]at h5;exact absurd h5 (by decide))|(simp at h5;lia)
 cases g with|cons m o=>cases o;cases m with|list p f=>exact⟨_,_,ns,rfl,rfl,p,tV ns _ f,e⟩
def Ek(l:OpenLaw)(args:List WData):l.row.toRowW.claim.post args (.bool true) args=true:=postW_of (r:=l.row.toRowW) (X:=(true==true)) (show WShape.has [] (.bool true) .bool=true by first|rfl|decide|simp[WShape.has,WShape.arms,WShape.armsAll]) (show(WTm.eq .res (.lit (.bool true))).value [] {args:=args,res:=some (.bool true),after:=args}=some (.bool (true==true))from w_eq_bool (w_res rfl) w_lit) rfl
def Bq{l:OpenLaw}{n:Nat}{q:RH}{b:RI}{x:(Str->Option Value)->Heap->Prop}{y:World->Heap->Prop}{d:DefRec}(hn:l.most=some n)(s:d.params.defaults=[])(call:∀(w:World)(s₀ s₁:Shared)(mg t:RF)(h:Addr)(o:Obj)(pm cd c:Value)(a:Addr)(g:RG)(ns:RN),Ground q b [] x w s₀ mg t s₁.heap->y w s₁.heap->s₁.heap.get? h=some o->o.data=.func (docDef d.name d.params d.body d.scope pm cd c)->s₁.heap.CodeRec cd d.name->mg d.name=some (.ref h)->s₁.heap.get? a=some {cls:=.type "list",data:=.seq g.toArray}->IntsAre g ns->ns.length<=n->s₁.gens=#[]->codeAny (model l.prog w) callerA (.call (.ref h) ⟨[.ref a],[]⟩) (λr p=>r=.ok (.ret (.bool true))/\OldK s₁.heap p.heap/\p.os=s₁.os/\AllBare p.gens) s₁):WalkO q b x y l.row.toRowW d [] (λf g=>PySem.call f g):=by intro w s₀ s₁ mg t G Y h o pm cd c D kV E hd m z u hg A B J i C F v H;obtain rfl:D=.none:=Dflts.none z s;obtain rfl:kV=.none:=Dflts.noKw z;obtain⟨a,g,ns,rfl,rfl,j,e,k⟩:=Eg hn i v;refine enter_call (t0 (call w s₀ s₁ mg t h o pm cd c a g ns G Y E (fd_plain hd) m u j e k hg) λr p I=>?_);obtain⟨rfl,h2,h3,h4⟩:=I;exact⟨.inl ⟨.bool true,.bool true,[],rfl,λ_=>rfl,.bool true,Ek l _,λ_=>⟨List.Pairwise.nil,λ_ hm=>(nomatch hm)⟩⟩,h2,h3,h4⟩
section
variable{prog:RH}{w:World}{A:Around}{E:RD}{s:Shared}{K:Frag}
end
end Att
namespace L2
open PySem PySem.Spec PyProof.Rows
theorem xh:∀{a:RG}{ns:RN},IntsAre a ns->aY (ns.map V.int) a|_,_,.nil=>.nil|_,_,.cons n t h=>.cons ⟨t,rfl⟩ (xh h)
def Bt(H:Hp):Prop:=∀b,H b=none\/∃o a,H b=some (.frz o (.lst a))
def GV{P:RH}{w:World}{K:RC}{mg J:RF}{T:BB}{k:Nat}{L a:Addr}{fd:FuncData}{x:Str}{sp:Sp}{s₁:Shared}{l:RG}{ns:RN}(X:K.In s₁.heap)(t:s₁.heap.Ns mainGlobals mg)(f:s₁.heap.Ns builtinsNs J)(M:∀x:Str,x≠"__name__"->J x=bootBuiltins x)(y:s₁.heap.NoLimit)(hg:s₁.gens=#[])(I:s₁.heap.get? a=some {cls:=.type "list",data:=.seq l.toArray})(hi:IntsAre l ns)(Z:ns.length<=sizeLine)(hr:eK k callerA)(F:∀base:Heap,K.In base->base.Ns mainGlobals mg->aP P w K mg base T k L fd [x] sp)(p:∀(s:Shared)(u:Value),BindsTo s fd ⟨[u],[]⟩ [(x,u)])(N:∀H:Hp,Bt H->aO K H a (ns.map V.int)->sp [.ref a] H (λv _=>v=.bl true) λ_ _ _=>False)(Q:∀H e g,T [] H s₁ (λ_ _ _=>False) e g->False):codeAny (model P w) callerA (.call (.ref L) ⟨[.ref a],[]⟩) (λr g=>r=.ok (.ret (.bool true))/\OldK s₁.heap g.heap/\g.os=s₁.os/\AllBare g.gens) s₁:=by
 have U:=xh hi;have A:=hi.length;have j:∀H:Hp,Bt H->aO K H a (ns.map V.int)->me P w H s₁.heap->(∀b,H b≠none->b=a)->(H a≠none->K.lookup a=none)->codeAny (model P w) callerA (.call (.ref L) ⟨[.ref a],[]⟩) (λr g=>r=.ok (.ret (.bool true))/\OldK s₁.heap g.heap/\g.os=s₁.os/\AllBare g.gens) s₁:=by
  intro H Y hS hok hA hK;have c:∀{b:Addr}{o:Obj},s₁.heap.get? b=some o->H b=none->(zb s₁.heap H).get? b=some o:=λe n=>Hd e n;have O:∀{b:Addr}{o:Obj}{B:Array DictEntry}{C:Nat},s₁.heap.get? b=some o->o.data=.dict B C->H b=none:=λ{b o B C}e d=>by cases q:H b with|none=>rfl|some u=>have R:b=a:=hA b (by rw[q];simp);subst R;rw[I]at e;cases e;have d':Data.seq l.toArray _=Data.dict B C:=d;cases d'
  have i:∀{b:Addr}{m:RF},s₁.heap.Ns b m->(zb s₁.heap H).Ns b m:=λ{b m}⟨o,B,C,e,d,r⟩=>⟨o,B,C,c e (O e d),d,r⟩;have D:K.In (zb s₁.heap H):=λb o e=>c (X b o e) (by cases q:H b with|none=>rfl|some u=>have R:b=a:=hA b (by rw[q];simp);subst R;rw[hK (by rw[q];simp)]at e;cases e)
  have hM:OF K mg (zb s₁.heap H):=⟨D,i t,⟨J,i f,M⟩,let⟨mc,h1,h2⟩:=y;⟨mc,i h1,h2⟩⟩;have e0:CY P w K mg (zb s₁.heap H) callerA [] s₁ H:=⟨rfl,hM,λb o e=>JB e,PL (EI _ _),trivial,λb f=>absurd (show b∈([]:RM)from f) (by simp),hok,.of_eq hg⟩;refine t0 ((F _ D (i t)).run callerA [] s₁ H ⟨[.ref a],[]⟩ [.ref a] [.ref a] _ _ hr e0 (p s₁ (.ref a)) (.cons rfl .nil) (N H Y hS)) λr g h=>?_;cases r with|error e=>exact(Q H e g h).elim|ok fl=>cases fl with|next=>exact False.elim h|brk=>exact False.elim h|cont=>exact False.elim h|ret u=>obtain⟨v,H',os,bare,un,E,r',q⟩:=h;have q':v=.bl true:=q;subst q';obtain rfl:u=Value.bool true:=r';refine⟨rfl,OldK.of_keep λb o e=>?_,os,bare⟩;cases q:H b with|none=>exact un.keep b o e q (by intro z;exact absurd (show b∈([]:RM)from z) (by simp)) (by simp)|some u=>
     rcases Y b with z|⟨ob,xs,z⟩
     ·rw[q]at z;cases z
     ·have z2:=un.frzs b ob _ z;obtain⟨e1,_⟩:=hok b _ z;obtain⟨e2,_⟩:=E b _ z2;rw[e]at e1;cases e1;exact e2
 cases S:K.lookup a with|some o=>have e:=X a o S;rw[I]at e;cases e;refine j (λ_=>none) (λ_=>.inl rfl) (.inr ⟨_,l.toArray,_,S,rfl,rfl,rfl,by rw[j_,A];exact Z,by simpa using U⟩) (λb u z=>by have G:(none:Option HO)=some u:=z;cases G) (λb z=>absurd rfl z) λz=>absurd rfl z|none=>
  refine j (λb=>if b=a then some (.frz {cls:=.type "list",data:=.seq l.toArray} (.lst (ns.map V.int)))else none) (λb=>?_) (.inl (.inr ⟨{cls:=.type "list",data:=.seq l.toArray},i_ rfl⟩)) (λb u z=>?_) (λb z=>?_) λ_=>S
  ·by_cases f:b=a
   ·exact .inr ⟨_,_,i_ f⟩
   ·exact .inl (ir f)
  ·by_cases f:b=a
   ·have G:=(i_ f).symm.trans z;cases G;subst f;exact⟨I,by rw[c_];exact Z,l,_,U,I⟩
   ·have G:=(ir f).symm.trans z;cases G
  ·by_cases f:b=a
   ·exact f
   ·exact absurd (ir f) z
end L2
namespace L2
open PySem PySem.Spec PyProof.Rows
abbrev KOf{K:RC}{h:Heap}(_:K.In h):RC:=K
def Iy{l:PySem.W.OpenLaw}{n k:Nat}{q:RH}{i:RI}{I:(Str->Option Value)->Heap->Prop}{C:World->Heap->Prop}{d:DefRec}{K:Params->RC}{CX:World->BB}{sp:World->Sp}{x:Str}(hn:l.most=some n)(r:n<=sizeLine)(t:d.params.defaults=[])(J:eK k callerA)(L:∀(w:World)(h:Heap),C w h->(K w.params).In h)(F:∀(w:World)(mg:RF)(p:Addr)(h:Heap),(K w.params).In h->h.Ns mainGlobals mg->mg d.name=some (.ref p)->∃fd:FuncData,(∀(s:Shared)(u:Value),BindsTo s fd ⟨[u],[]⟩ [(x,u)])/\∀base:Heap,(K w.params).In base->base.Ns mainGlobals mg->aP l.prog w (K w.params) mg base (CX w) k p fd [x] (sp w))(y:∀(w:World)(H:Hp)(a:Addr)(ns:RN),ns.length<=n->Bt H->aO (K w.params) H a (ns.map V.int)->sp w [.ref a] H (λv _=>v=.bl true) λ_ _ _=>False)(z:∀(w:World)(H:Hp)(s:Shared)(e:Value)(A:Shared),CX w [] H s (λ_ _ _=>False) e A->False):PySem.W.WalkO q i I C l.row.toRowW d [] (λf D=>PySem.call f D):=by refine Att.Bq hn t λw s₀ s₁ mg S p o pm cd M a D ns G Y U hd N B m j c hg=>?_;have E:=L w _ Y;obtain⟨fd,O,P⟩:=F w mg p _ E G.T.g B;exact GV E G.T.g G.T.b G.T.builtins G.T.nolimit hg m j (mu c r) J P O (λH Q R=>y w H a ns c Q R) λH e A=>z w H s₁ e A
def Fq{l:PySem.W.OpenLaw}{n k:Nat}{q:RH}{b:RI}{t:(Str->Option Value)->Heap->Prop}{p:World->Heap->Prop}{d:DefRec}{K:Params->RC}{CX:BB}{sp:RC->Sp}{x:Str}(hn:l.most=some n)(c:n<=sizeLine)(g:d.params.defaults=[])(y:eK k callerA)(z:∀(w:World)(h:Heap),p w h->(K w.params).In h)(F:∀(w:World)(mg:RF)(r:Addr)(h:Heap),(K w.params).In h->h.Ns mainGlobals mg->mg d.name=some (.ref r)->∃fd:FuncData,(∀(s:Shared)(u:Value),BindsTo s fd ⟨[u],[]⟩ [(x,u)])/\∀base:Heap,(K w.params).In base->base.Ns mainGlobals mg->aP l.prog w (K w.params) mg base CX k r fd [x] (sp (K w.params)))(i:∀(K:RC)(H:Hp)(a:Addr)(ns:RN),ns.length<=n->Bt H->aO K H a (ns.map V.int)->sp K [.ref a] H (λv _=>v=.bl true) λ_ _ _=>False)(j:∀(H:Hp)(s:Shared)(e:Value)(o:Shared),CX [] H s (λ_ _ _=>False) e o->False):PySem.W.WalkO q b t p l.row.toRowW d [] (λf A=>PySem.call f A):=Iy (K:=K) (CX:=λ_=>CX) (sp:=λw=>sp (K w.params)) hn c g y z F (λw H a ns h1 h2 h3=>i (K w.params) H a ns h1 h2 h3) λ_ H s e o=>j H s e o
end L2
namespace L2
open PySem PySem.Spec PyProof.Rows
def pZ(s:Stmt):Arguments:=match s with|.FunctionDef _ a _ _ _ _ _ _ _ _=>a|_=>{posonlyargs:=[],args:=[],vararg:=none,kwonlyargs:=[],kw_defaults:=[],kwarg:=none,defaults:=[]}
def gr(s:Stmt):List Stmt:=match s with|.FunctionDef _ _ b _ _ _ _ _ _ _=>b|_=>[]
def aj(s:Stmt):Scope:=match s with|.FunctionDef _ _ _ _ _ _ a _ _ _=>a|_=>{kind:=.function,names:=[],isGenerator:=false,isCoroutine:=false}
abbrev dI:BB:=λ_ _ _ _ _ _=>False
abbrev E0:XK:=λ_ _ _=>False
def bx:lR dI X E0:=λ_ _ _ _ _ _ _ h=>h.elim
structure zJ(K:RC)(x qual:Str)(st:Stmt)(f:Addr)(fd:FuncData):Prop where
 ex:∃(oc:Value)(od:Option Addr)(kV doc pm:Value)(an:Option Addr)(cdv ct:Value)(osl:Array (Option Value)),fd=PySem.W.fnOf x qual (pZ st) (gr st) (aj st) .none kV doc pm an cdv ct/\K.lookup f=some ⟨oc,od,.func fd,osl⟩/\PySem.W.codeIn K cdv qual=true
 kp:PySem.W.keepIn K (.ref f)=true
section
variable{P:RH}{w:World}{K:RC}{mg:RF}{base:Heap}
def zJ.ok{x a:Str}{st:Stmt}{f:Addr}{fd:FuncData}{N e:RI}{k:Nat}{sp:Sp}(F:zJ K x a st f fd)(S:ay N e (aj st))(len:∀c H Q E,sp c H Q E->c.length=e.length)(d:∀(b:Value)(A:Around)(outer:List Env)(s:Shared)(H:Hp)(c:List V)(Q:VK)(E:XK),eK k (A.deeper (envOfC a (aj st) s.heap.objs.size f b))->sp c H Q E->∃t,xc (rT dI P w K mg base N a (aj st) f b A outer s H E).nox (gr st) t/\t {nx:=λ_ j=>Q .non j,rt:=Q} (jp N c) H):aP P w K mg base dI (k+1) f fd e sp:=by obtain⟨oc,p,kV,l,pm,r,b,ct,m,rfl,n,g⟩:=F.ex;refine KU n g S len λA outer s H c Q E o i=>?_;obtain⟨t,h,q⟩:=d b A outer s H c Q E o i;exact⟨t,h.nox,q⟩
def zJ.binds{x a:Str}{st:Stmt}{f:Addr}{fd:FuncData}{d:RI}(F:zJ K x a st f fd)(h:∀(kV b pm:Value)(e:Option Addr)(c ct:Value)(g:RG),g.length=d.length->bindArgs (PySem.W.fnOf x a (pZ st) (gr st) (aj st) .none kV b pm e c ct) ⟨g,[]⟩=pure (d.zip g)):gz K fd d []:=by obtain⟨oc,k,kV,b,pm,e,c,ct,i,rfl,l,j⟩:=F.ex;exact .all (h kV b pm e c ct)
def CF{x a:Str}{st:Stmt}{f:Addr}{oc:Value}{h g:Option Addr}{e:Array (Option Value)}{kV d pm b ct:Value}(l:K.lookup f=some ⟨oc,h,.func (PySem.W.fnOf x a (pZ st) (gr st) (aj st) .none kV d pm g b ct),e⟩)(c:PySem.W.codeIn K b a=true)(k:PySem.W.keepIn K (.ref f)=true):zJ K x a st f (PySem.W.fnOf x a (pZ st) (gr st) (aj st) .none kV d pm g b ct):=⟨⟨oc,h,kV,d,pm,g,b,ct,e,rfl,l,c⟩,k⟩
end
def cj(a:eK k A):A.units+1<cLine:=rV (Nat.add_le_add_left (by decide:1<=64) _) a.units
section
variable{X:Cx}
def Y(i:Nat)(b:X.N[i]?=some x:=by rfl)(c:OV X.env.scope x:=by first|exact Or.inl rfl|exact Or.inr (Or.inl rfl)|exact Or.inr (Or.inr rfl))(hd:(x==("__debug__":Str))=false:=by decide)(a:(x==("__classdict__":Str))=false:=by decide):PE X (.Name x d) (Lo i):=L4 b c hd a
end
def b0{A B:Prop}(h:B):if false=true then A else B:=by rw[ir lm];exact h
def bI{A B:Prop}(h:A):if true=true then A else B:=by rw[i_ rfl];exact h
def ao(H a:Hp):Prop:=∀b o,H b=some o->a b=some o
def ao.refl(H:Hp):ao H H:=λ_ _ h=>h
def ao.trans(a:ao H d)(b:ao d e):ao H e:=λc o h=>b c o (a c o h)
def ao.free(e:ao H a)(h:a l=Option.none):H l=Option.none:=by cases q:H l with|none=>rfl|some o=>rw[e l o q]at h;cases h
def ao.seq{K:RC}{H b:Hp}{a:Addr}{c:List V}(e:ao H b)(h:aO K H a c):aO K b a c:=by
 rcases h with(h|⟨o,h⟩)|h
 ·exact .inl (.inl (e _ _ h))
 ·exact .inl (.inr ⟨o,e _ _ h⟩)
 ·exact .inr h
section
variable{a:Type}[DecidableEq a]
def xM{p:a×V}{r:List (a×V)}{k:a}(e:p.1=k):dH (p::r) k=dH r k:=by unfold dH;rw[QC,ir (by simp[e])]
def xN{p:a×V}{r:List (a×V)}{k:a}(e:¬p.1=k):dH (p::r) k=p::dH r k:=by unfold dH;rw[QC,i_ (by simp[e])]
end
end L2
set_option maxHeartbeats 4000000
namespace L2
open PySem PySem.Spec PyProof.Rows
section
variable{prog:RH}{w:World}{A:Around}{R:Result->Shared->Prop}{s:Shared}
def kR(h:wpAny M A t Q (λ_ _=>False) s)(k:∀a s,Q a s->b a s):wpAny M A t b E s:=wpAny_mono h k λ_ _ z=>z.elim
def Be(J:Nat->Shared->Prop)(l:∀n s,J n s->wpAny (model prog w) A (pyNext B) (λr s₁=>match r with|none=>R (.ok .next) s₁|some v=>wpAny (model prog w) A (letOwnedTupleGo a B v) (λ_ d=>wpAny (model prog w) A (assign a env v) (λ_ e=>wpAny (model prog w) A (forIn k true λc r=>if r=true then do let ok<-isTrue c env (eval c env);pure (ForInStep.yield ok)else pure (ForInStep.yield r)) (λok b=>if ok=true then wpAny (model prog w) A (eval o env) (λx f=>wpAny (model prog w) A (call (.builtin "list.append") [p,x]) (λ_ g=>∃m,m<n/\J m g) (λ_ _=>False) f) (λ_ _=>False) b else∃m,m<n/\J m b) (λ_ _=>False) e) (λ_ _=>False) d) (λ_ _=>False) s₁) (λ_ _=>False) s)(n:Nat)(h:J n s):codeAny (model prog w) A (.compLoop (.ListComp o [⟨a,q,k,0⟩] scope C) 0 B p env) R s:=by refine codeAny_loop rfl J (λn s D=>?_) n h;show wpAny _ A ((compTurn (.ListComp o [⟨a,q,k,0⟩] scope C) 0 B p env).onRaise (λx=>do noteFrame x env;theTreesLotGoes x)) _ _ s;refine wpAny_noted ?_;rw[compTurn_list];refine a_ (wpAny_standAt (a_ (kR (l n s D) (λr s₁ i=>?_))));cases r with|none=>exact e_ i|some v=>refine a_ (kR i λ_ d t=>a_ (kR t λ_ e u=>a_ (kR u λok b j=>?_)));cases ok with|false=>exact e_ ⟨rfl,j⟩|true=>exact a_ (a_ (kR j λx f y=>a_ (kR y λ_ g z=>e_ (e_ ⟨rfl,z⟩))))
end
theorem l8{f:Str->NameKind->NameKind}:∀(l:List (Str×NameKind))(x:Str),(l.map λp=>(p.1,f p.1 p.2)).lookup x=(l.lookup x).map (f x)|[],_=>rfl|(n,k)::r,x=>by rw[np,QA,QA];cases a:x==n with
 |true=>
   have e:x=n:=by simpa using a
   subst e;rfl|false=>exact l8 r x
def mB(env:Env)(n:Str)(k:NameKind):NameKind:=if(k==.free&&env.scope.kind==.function&&env.kindOf n==some .cell)=true then .cell else k
def jA(scope:Scope)(env:Env)(x:Str):(relabel scope env).names.lookup x=(scope.names.lookup x).map (mB env x):=by
 rw[<-l8];unfold relabel
 congr 1
 show List.map _ scope.names=List.map _ scope.names
 congr 1
 funext p
 obtain⟨n,k⟩:=p;show(if(k==NameKind.free&&env.scope.kind==.function&&env.kindOf n==some .cell)=true then(n,NameKind.cell)else(n,k))=(n,mB env n k);unfold mB
 split<;>rfl
theorem oR{env:Env}{f:Str×NameKind->List (Str×Addr)->Sem (ForInStep (List (Str×Addr)))}(d:∀n c r,cellOf env n=pure c->f (n,.free) r=pure (.yield ((n,c)::r)))(g:∀n k r,k≠.free->f (n,k) r=pure (.yield r)):∀(l:List (Str×NameKind))(cs:List (Str×Addr)),(∀y∈l,y.2=.free->∃c,env.cells.lookup y.1=some c)->∃cl:List (Str×Addr),forIn l cs f=pure cl/\(∀x c,cl.lookup x=some c->env.cells.lookup x=some c\/cs.lookup x=some c)/\(∀x,(∃c,cs.lookup x=some c)\/(x,NameKind.free)∈l->∃c,cl.lookup x=some c)
 |[],cs,_=>⟨cs,rfl,λ_ _ h=>.inr h,λx h=>h.elim id nofun⟩|(n,k)::r,cs,h=>by
  by_cases o:k=.free
  ·subst o;obtain⟨c,hc⟩:=h (n,.free) l_ rfl;obtain⟨cl,h1,h2,h3⟩:=oR d g r ((n,c)::cs) λy p=>h y (kw _ p);refine⟨cl,?_,λx i a=>?_,λx a=>h3 x ?_⟩
   ·rw[Qd,d n c cs (by unfold cellOf;rw[hc])];exact h1
   ·rcases h2 x i a with z|z
    ·exact .inl z
    ·rw[QA]at z;cases b:x==n with|true=>
      rw[b]at z;have j:x=n:=by simpa using b
      have m:c=i:=by simpa using z
      subst j;subst m;exact .inl hc|false=>rw[b]at z;exact .inr z
   ·rcases a with⟨i,a⟩|a
    ·refine .inl ?_;rw[QA];cases b:x==n with|true=>exact⟨c,rfl⟩|false=>exact⟨i,a⟩
    ·rcases pv.mp a with e|e
     ·injection e with j m;subst j;exact .inl ⟨c,by simp⟩
     ·exact .inr e
  ·obtain⟨cl,h1,h2,h3⟩:=oR d g r cs λy p=>h y (kw _ p);refine⟨cl,?_,h2,λx a=>h3 x ?_⟩
   ·rw[Qd,g n k cs o];exact h1
   ·rcases a with a|a
    ·exact .inl a
    ·rcases pv.mp a with e|e
     ·injection e with j m;exact absurd m.symm o
     ·exact .inr e
def w6{env:Env}{scope:Scope}(h:∀y∈scope.names,y.2=.free->∃c,env.cells.lookup y.1=some c):∃cl:List (Str×Addr),closureFor scope env=pure cl/\(∀x c,cl.lookup x=some c->env.cells.lookup x=some c)/\(∀x,(x,NameKind.free)∈scope.names->∃c,cl.lookup x=some c):=by
 simp only[closureFor];obtain⟨cl,h1,h2,h3⟩:=oR (env:=env) (f:=λ(x:Str×NameKind)(r:List (Str×Addr))=>match x with|(b,kind)=>if(kind==NameKind.free)=true then(do let a<-cellOf env b;pure (ForInStep.yield ((b,a)::r)))else pure (ForInStep.yield r)) (λn c r e=>by show(if(NameKind.free==NameKind.free)=true then(do let a<-cellOf env n;pure (ForInStep.yield ((n,a)::r)))else pure (ForInStep.yield r):Sem _)=_;rw[i_ (by decide),e];rfl) (λn k r e=>by show(if(k==NameKind.free)=true then(do let a<-cellOf env n;pure (ForInStep.yield ((n,a)::r)))else pure (ForInStep.yield r):Sem _)=_;rw[ir (by simpa using e)]) scope.names [] h
 refine⟨cl,?_,λx c e=>(h2 x c e).elim id λz=>by simp at z,λx d=>h3 x (.inr d)⟩;rw[h1];rfl
def Cx.comp(X:Cx)(scope:Scope)(a:RI)(cl:List (Str×Addr))(C:Addr)(s₀:Shared)(H₀:Hp)(ex:RM):Cx:={prog:=X.prog,w:=X.w,K:=X.K,mg:=X.mg,base:=X.base,A:=X.A,N:=a,s₀:=s₀,H₀:=H₀,env:=compEnvC scope cl C X.env,outer:=X.stack,stack:=X.stack,ex:=ex,fn:=λ_=>false,calm:=X.calm,pn:=X.pn,xe:=λ_ _=>False}
def fX(ds:RL)(k:Nat)(a:St):St:=ds.foldl (λa i=>a.set i none) a++List.replicate k none
def oP(ds:RL):∀a:St,(ds.foldl (λa i=>a.set i none) a).length=a.length:=by induction ds with|nil=>intro a;rfl|cons d r b=>intro a;rw[z7,b];simp
def CH(ds:RL):∀(a:St)(i:Nat)(v:V),(ds.foldl (λa i=>a.set i none) a)[i]?=some (some v)->a[i]?=some (some v)/\i∉ds:=by induction ds with|nil=>intro a i v h;exact⟨h,by simp⟩|cons d r b=>
  intro a i v h;rw[z7]at h;obtain⟨h1,h2⟩:=b _ i v h
  by_cases e:d=i
  ·subst e
   by_cases c:d<a.length
   ·rw[A_ c]at h1;cases h1
   ·rw[PM.mpr (by rw[vu];lia)]at h1;cases h1
  ·rw[oD e]at h1;exact⟨h1,λz=>(pv.mp z).elim (λq=>e q.symm) h2⟩
def A5(h:(fX ds k a)[i]?=some (some v)):a[i]?=some (some v)/\i∉ds/\i<a.length:=by
 unfold fX at h
 by_cases b:i<a.length
 ·rw[q_ (by rw[oP];exact b)]at h;obtain⟨h1,h2⟩:=CH ds a i v h;exact⟨h1,h2,b⟩
 ·rw[sg (by rw[oP];lia)]at h;have:=d_.mp h;obtain⟨h1,h2⟩:=this;rw[List.getElem_replicate]at h2;cases h2
def KD(X:Cx)(b:RJ)(t:TT):Prop:=∀(a:RE)(s:Shared)(d:St)(H:Hp)(Q:Bool->Hp->Prop),aL X a d H s->t d H Q->wpAny (model X.prog X.w) X.A (forIn b true λc r=>if r=true then do let ok<-isTrue c X.env (eval c X.env);pure (ForInStep.yield ok)else pure (ForInStep.yield r)) (TP X a d Q) X.xe s
def NB:TT:=λ_ H Q=>Q true H
def bY:KD X [] NB:=λ_ _ _ H _ I h=>wpAny_tests_nil ⟨H,I,h⟩
def t6(h:PT X c t):KD X [c] t:=λa s b H Q I q=>wpAny_tests_one (h a s b H Q I q)
def GK(g:TG)(c:RL):Prop:=∀x b H Q,g x b H Q->g x b H λa d=>Q a d/\a.length=b.length/\∀i,i∉c->a[i]?=b[i]?
def ck(j:Nat):GK (i0 j) [j]:=λx a H Q h=>by refine⟨h,by simp,λi hi=>?_⟩;rw[oD (λe=>hi (by simp[e]))]
def zc(K:RC)(i j:Nat):GK (Kc K 2 (xH (i0 i) (xH (i0 j) Mz))) [i,j]:=λx l H Q h=>by obtain⟨a,b,e,c,d,v,r,f,u,r2,g,k,q⟩:=h;refine⟨a,b,e,c,d,v,r,f,u,r2,g,k,q,by simp,λn hn=>?_⟩;have h1:n≠i:=λz=>hn (by simp[z]);have h2:n≠j:=λz=>hn (by simp[z]);rw[oD (o_ h2),oD (o_ h1)]
def uo(o:TI)(g:TG)(ds:RL)(k:Nat)(tc:TT)(te:TE):TE:=λf H Q=>o f H λJ h=>∀D,h D=none->∃W:Nat->Nat->List V->Hp->Prop,(∃m,W 0 m [] (az h D (.lst [])))/\∀i m a c,W i m a c->(J.stop i c/\Q (.ref D) c)\/(J.go i c/\∀x j,J.yld i c x j->g x (fX ds k f) j λd p=>tc d p λb l=>if b=true then te d l λy n=>n D=some (.lst a)/\a.length<sizeLine/\∃e,e<m/\W (i+1) e (a++[y]) (az n D (.lst (a++[y])))else∃e,e<m/\W (i+1) e a l)
section
variable{X:Cx}
def HK(I:aL X t σ H s)(f:∀b∈fp,vP X t H b)(fo:∀b∈fp,∃o,s.heap.get? b=some o)(E:scope.kind=.function)(F:∀y∈scope.names,y.2≠.cell)(G:∀y∈scope.names,y.2=.free->X.env.scope.names.lookup y.1=some .cell\/X.env.scope.names.lookup y.1=some .free)(g:∀x c,cl.lookup x=some c->X.env.cells.lookup x=some c)(D:∀x,(x,NameKind.free)∈scope.names->∃c,cl.lookup x=some c)(hN:W=X.N++L)(hk:L.length=k)(M:∀i x,X.N[i]?=some x->scope.names.lookup x=some .local->i∈ds)(P:s.heap.objs.size<C)(keep:∀b o,s.heap.get? b=some o->j.get? b=some o)(Z:j.Ns C m)(hD:j.get? s.heap.objs.size=some {cls:=.type "list",data:=.seq ([]:RG).toArray 0}):aL (X.comp scope W cl C s H fp) t (fX ds k σ) (az H s.heap.objs.size (.lst [])) {s with heap:=j,toks:=tk}:=by
 have fresh:H s.heap.objs.size=none:=I.hok.fresh (f_ _);have O:me X.prog X.w (az H s.heap.objs.size (.lst [])) j:=I.hok.laid keep (f_ _) ⟨m_ _,[],0,.nil,hD⟩;have J:∀b∈fp,b<s.heap.objs.size:=λb A=>let⟨_,e⟩:=fo b A;iq e;have K:∀b,b∈kE X.stack->∀p∈X.pn++t,p.1≠b:=λb A p T e=>by
  obtain⟨_,_,n1,n2,_⟩:=I.pin p T;rcases pv.mp (I.stkSub b A)with z|z
  ·exact n1 (e.trans z)
  ·exact n2 (e▸z)
 have B:∀x c,cl.lookup x=some c->c<s.heap.objs.size:=λx c e=>by obtain⟨v,z⟩:=I.cell x c (g x c e);exact z.lt
 have a:∀x,(relabel scope X.env).names.lookup x=some .cell\/(relabel scope X.env).names.lookup x=some .free->scope.names.lookup x=some .free:=λx h=>by rw[jA]at h;cases e:scope.names.lookup x with|none=>rw[e]at h;simp at h|some q=>
   rw[e]at h;have hm:=mem_of_lookup e;have nc:q≠.cell:=F _ hm;simp only[PV,Qo]at h;unfold mB at h
   split at h
   ·rename_i hc;have:(q==NameKind.free)=true:=by cases hq:q==NameKind.free with|true=>rfl|false=>rw[hq]at hc;simp at hc
    have:q=.free:=by simpa using this
    rw[this]
   ·rcases h with h|h
    ·exact absurd h nc
    ·rw[h]
 refine⟨⟨I.ok.mod,?_,I.ok.glob,I.ok.blt,t2 P,?_,?_,?_,I.ok.hd,I.ok.frames,.inl rfl,?_,I.bs,mu I.ok.bsz I.sz,?_,?_,I.stack,I.stkFree⟩,rfl,I.bare,Un.laid keep (f_ _) fresh,⟨m,Z,?_⟩,?_,?_,?_,?_,O,?_⟩
 ·exact E
 ·intro x y c V hy;exact I.ok.inj x y c (g x c V) (g y c hy)
 ·intro x V;exact D x (mem_of_lookup (a x V))
 ·intro x c hf;exact absurd hf (by simp[Cx.comp])
 ·intro b A;refine⟨k4 (E_ (J b A) P),λx c e z=>?_⟩;exact(f b A).2.2.2.2.1 x c (g x c e) z
 ·intro b o e A;rcases(f b A).2.2.2.1 with z|z
  ·exact I.ok.noex b o e z
  ·exact absurd (n0 (iq e) (mu I.ok.bsz z)) (rm _)
 ·intro b A hs;rcases pv.mp (I.stkSub b hs)with z|z
  ·exact(f b A).2.1 z
  ·exact(f b A).2.2.1 z
 ·intro i x v U e2 vis;obtain⟨g1,g2,g3⟩:=A5 e2;have Q:X.N[i]?=some x:=by have U:W[i]?=some x:=U;rw[hN,q_ (by rw[<-I.len];exact g3)]at U;exact U
  have hv:scope.names.lookup x=some .free:=by
   rcases vis with z|z|z
   ·exfalso;have z:(relabel scope X.env).names.lookup x=some .local:=z;rw[jA]at z;cases e:scope.names.lookup x with|none=>rw[e]at z;simp at z|some q=>
     rw[e]at z;simp only[PV,Qo]at z;unfold mB at z
     split at z
     ·cases z
     ·subst z;exact g2 (M i x Q e)
   ·exact a x (.inl z)
   ·exact a x (.inr z)
  have hm:=mem_of_lookup hv;have hX:=G _ hm rfl;obtain⟨mX,_,hl⟩:=I.loc;have R:OV X.env.scope x:=by
   rcases hX with z|z
   ·exact .inr (.inl z)
   ·exact .inr (.inr z)
  obtain⟨u,r,l⟩:=hl i x v Q g1 R;refine⟨u,r,.inr ⟨?_,?_⟩⟩
  ·show(relabel scope X.env).names.lookup x=some .cell\/(relabel scope X.env).names.lookup x=some .free;rw[jA,hv];show some (mB X.env x .free)=some .cell\/some (mB X.env x .free)=some .free;unfold mB
   split
   ·exact .inl rfl
   ·exact .inr rfl
  ·obtain⟨c,hc⟩:=D x hm;have Y:=g x c hc;refine⟨c,hc,?_⟩;rcases l with⟨kl,_⟩|⟨_,c',S,o,ho,hd⟩
   ·exfalso;have kl:X.env.scope.names.lookup x=some .local:=kl;rcases hX with z|z
    ·rw[kl]at z;cases z
    ·rw[kl]at z;cases z
   ·rw[Y]at S;cases S;exact⟨o,keep c o ho,hd⟩
 ·intro x c e;obtain⟨v,o,ho,hd⟩:=I.cell x c (g x c e);exact⟨v,o,keep c o ho,hd⟩
 ·show az H s.heap.objs.size (.lst []) C=none;rw[am (ot P)];exact I.hok.fresh (t2 P)
 ·intro x c e;rw[am (k4 (B x c e))];exact I.freeC x c (g x c e)
 ·intro p T;obtain⟨e,n,n1,n2,d⟩:=I.pin p T;have lt:=iq e;refine⟨keep _ _ e,?_,k4 (E_ lt P),λz=>K p.1 z p T rfl,d⟩;rw[am (k4 lt)];exact n
 ·show(fX ds k σ).length=W.length;unfold fX;rw[iA,oP,I.len,hN,iA,D_,hk]
def HJ(I:aL X a p H s)(f:∀b∈fp,vP X a H b)(g:aL (X.comp scope x cl C s H fp) a r i j)(t:s.heap.objs.size<C)(l:Heap.SameBut C j.heap h'):aL X a p i {j with heap:=h'}:=by
 have u:=g.base;have d:i C=none:=g.free;have ne:∀b o,s.heap.get? b=some o->b≠C:=λb o e=>k4 (E_ (iq e) t);have m:Un (kE X.stack) fp H i s.heap h':=by
  refine⟨λb o e n h1 h2=>?_,λb o e n h1 h2=>?_,u.free,λb o e h2=>?_,u.tups,u.frzs,u.tbls⟩
  ·exact(l.2 b (ne b o e)).trans (u.keep b o e n h1 h2)
  ·obtain⟨sl,q⟩:=u.slot b o e n h1 h2;exact⟨sl,(l.2 b (ne b o e)).trans q⟩
  ·obtain⟨v,q⟩:=u.there b o e h2;exact⟨v,(l.2 b (ne b o e)).trans q⟩
 have h:me X.prog X.w i h':=λb ob e=>by
  refine(g.hok b ob e).stay (λc y hc q=>(l.2 c ?_).trans q) (λ_ q=>q) λ_ _ q=>q;rintro rfl;rcases hc with rfl|hc
  ·rw[d]at e;cases e
  ·rw[d]at hc;cases hc
 exact I.call' (s':={j with heap:=h'}) g.os m h g.bare λb k=>⟨(f b k).2.2.2.1,(f b k).2.1,(f b k).2.2.2.2.1,(f b k).2.2.2.2.2⟩
def aL.block_gone(I:aL X a d H s)(hn:H C=none)(f:C≠X.env.locals)(h1:X.s₀.heap.objs.size<=C)(h2:∀x c,X.env.cells.lookup x=some c->c≠C)(h3:∀p∈X.pn++a,p.1≠C)(g:Heap.SameBut C s.heap h'):aL X a d H {s with heap:=h'}:=I.turned (t':=s.toks) (λb o h e=>(g.2 b h).trans e) hn f (.inr h1) h2 h3
def xP(N':RI)(ds:RL)(k:Nat){a:RE}{s:Shared}{P:St}{H:Hp}{Q:VK}{use:Option (Value->Sem Unit)}{QV:RD}(hc:X.calm=true)(hi:PI X tg l wi)(G:∀cl C s₀ H₀ ex,PG (X.comp scope N' cl C s₀ H₀ ex) tg g/\KD (X.comp scope N' cl C s₀ H₀ ex) R tc/\PE (X.comp scope N' cl C s₀ H₀ ex) a8 te)(hg:GK g js)(hj:∀P:St,P.length=X.N.length->∀j∈js,∀v,(fX ds k P)[j]?≠some (some v))(L:scope.kind=.function)(S:∀y∈scope.names,y.2≠.cell)(aa:∀y∈scope.names,y.2=.local->scope.names.lookup y.1=some .local)(Z:∀y∈scope.names,y.2=.free->X.env.scope.names.lookup y.1=some .cell\/X.env.scope.names.lookup y.1=some .free)(hN:N'=X.N++ba)(hk:ba.length=k)(bb:∀i x,X.N[i]?=some x->scope.names.lookup x=some .local->i∈ds)(hs:∀x,foldedSetIterable l X.env x=pure x)(I:aL X a P H s)(h:uo wi g ds k tc te P H Q)(fin:∀(D C:Addr)(H':Hp)(s':Shared)(m:RF),aL X a P H' s'->Q (.ref D) H'->s'.heap.Ns C m->H' C=none->C≠X.env.locals->X.s₀.heap.objs.size<=C->(∀x c,X.env.cells.lookup x=some c->c≠C)->(∀p∈X.pn++a,p.1≠C)->compPost (model X.prog X.w) X.A X.xe use QV (.ref D) C (.ok .next) s'):wpAny (model X.prog X.w) X.A (comprehension (.ListComp a8 [⟨tg,l,R,0⟩] scope bc) scope X.env (firstIterPos [⟨tg,l,R,0⟩] bc) (newList []) (firstAsync [⟨tg,l,R,0⟩]) (firstIter [⟨tg,l,R,0⟩] X.env) use) QV X.xe s:=by
 have V:∀y∈scope.names,y.2=.free->∃c,X.env.cells.lookup y.1=some c:=λy hy e=>I.ok.has y.1 (Z y hy e);obtain⟨cl,as,bd,bi⟩:=w6 V;refine wpAny_comprehension_free (use:=use) rfl hs as L aa (cy (hi a s P H _ I h) λv s1 h1=>cy h1 λda t h2=>?_);obtain⟨it,fp,tn,J,H2,e,Y,T,bt,f2,q⟩:=h2;subst e;have dc:=Y;obtain⟨W,⟨m0,w0⟩,bu⟩:=q t.heap.objs.size (Y.hok.fresh (f_ _));refine rb (wpAny_newFunctionEnv S (by intro y hy;simp at hy) (λE B hsb₁=>?_) L);dsimp only at B hsb₁⊢;generalize a5:t.heap.push {cls:=.type "list",dict:=none,data:=.seq ([]:RG).toArray}=G2 at B hsb₁⊢;have hC:t.heap.objs.size<G2.objs.size:=by rw[<-a5,n_];exact rx _
 have keep:∀b o,t.heap.get? b=some o->E.get? b=some o:=λb o e=>hsb₁.extBut b o (k4 (E_ (iq e) hC)) (b_ _ (a5▸b_ _ e))
 have hD:E.get? t.heap.objs.size=some {cls:=.type "list",data:=.seq ([]:RG).toArray 0}:=hsb₁.extBut _ _ (k4 hC) (b_ _ (a5▸g_ _ rfl));have fo:∀b∈fp,∃o,t.heap.get? b=some o:=λb G=>let⟨o,e,_⟩:=T.obj _ _ bt b G;⟨o,e⟩;obtain⟨bz,bK,bN⟩:=G cl G2.objs.size t H2 fp;generalize f:X.comp scope N' cl G2.objs.size t H2 fp=M at bz bK bN;have xp:M.prog=X.prog:=by rw[<-f];rfl
 have xw:M.w=X.w:=by rw[<-f];rfl
 have xK:M.K=X.K:=by rw[<-f];rfl
 have xA:M.A=X.A:=by rw[<-f];rfl
 have xe:M.xe=λ_ _=>False:=by rw[<-f];rfl
 have F:M.env=compEnvC scope cl G2.objs.size X.env:=by rw[<-f];rfl
 have b7:M.calm=true:=by rw[<-f];exact hc
 have jp:aL M a (fX ds k P) (az H2 t.heap.objs.size (.lst [])) {t with heap:=E,toks:=t.toks+([]:List (Str×Value)).length}:=by rw[<-f];exact HK Y f2 fo L S Z bd bi hN hk bb hC keep B hD
 have b8:tn 0 E:=T.keep _ _ _ bt λb _ o e=>keep b o e;have c0:∀b∈fp,az H2 t.heap.objs.size (.lst []) b=none:=λb G=>by obtain⟨o,e⟩:=fo b G;rw[am (k4 (iq e))];exact(f2 b G).1
 have U:∀{H':Hp},(∀b∈fp,H' b=none)->∀b∈fp,vP M a H' b:=λhn b G=>by
  obtain⟨f0,f1,f3,f4,f5,f6⟩:=f2 b G;obtain⟨o,e⟩:=fo b G;refine⟨hn b G,?_,?_,?_,?_,?_⟩
  ·rw[F];exact k4 (E_ (iq e) hC)
  ·intro z;have z:b∈kE X.stack:=by rw[<-f]at z;exact z
   rcases pv.mp (Y.stkSub b z)with y|y
   ·exact f1 y
   ·exact f3 y
  ·rw[<-f];exact .inl G
  ·intro x c ec;rw[F]at ec;exact f5 x c (bd x c ec)
  ·intro p hp;rw[<-f]at hp;exact f6 p hp
 have an:codeAny (model X.prog X.w) X.A (.compLoop (.ListComp a8 [⟨tg,l,R,0⟩] scope bc) 0 (.ref it) (.ref t.heap.objs.size) (compEnvC scope cl G2.objs.size X.env)) (compPost (model X.prog X.w) X.A X.xe use QV (.ref t.heap.objs.size) G2.objs.size) {t with heap:=E,toks:=t.toks+([]:List (Str×Value)).length}:=by
  refine Be (λn s'=>∃i O H',aL M a (fX ds k P) H' s'/\tn i s'.heap/\(∀b∈fp,H' b=none)/\W i n O H') ?_ m0 ⟨0,[],_,jp,b8,c0,w0⟩;rintro n s3⟨i,O,H3,I3,b9,cc,w3⟩;rcases bu i n O H3 w3 with⟨stop,qn⟩|⟨go,step⟩
  ·have td:=T.done M xp xw xK b7 i a s3 _ H3 (λ_ _=>False) I3 (U cc) b9 stop;rw[xA]at td;refine cy td λr s4⟨hr,I4⟩=>?_;subst hr;have ad:=I4;rw[<-f]at ad;obtain⟨m',c1,_⟩:=ad.loc;refine fin t.heap.objs.size G2.objs.size H3 s4 m' (HJ (h':=s4.heap) Y f2 ad hC (.refl ..)) qn c1 ad.free (ot (E_ Y.lt hC)) (t2 (rV Y.sz hC)) (λx c e z=>?_) λp hp z=>?_
   ·obtain⟨v,q⟩:=Y.cell x c e;exact absurd (E_ q.lt hC) (by rw[z];exact rm _)
   ·exact absurd (E_ (iq (Y.pin p hp).1) hC) (by rw[z];exact rm _)
  ·have ti:=T.item M xp xw xK b7 i a s3 _ H3 (λ_ _=>False) I3 (U cc) b9 go;rw[xA]at ti;refine cy ti λr s4⟨u,hr,h4⟩=>?_;subst hr;refine cy h4 λ_ s5⟨x,H5,I5,r5,y5,a6,c2⟩=>?_;have c3:=I5.pinned (U c2) (T.obj _ _ a6);have pg:=bz _ s5 _ H5 x u _ c3 r5 (hg x _ H5 _ (step x H5 y5));rw[xp,xw,xA,F,xe]at pg;refine cy pg λ_ s6⟨al,H6,I6,⟨q6,ci,a7⟩⟩=>?_;have again:∀{H7:Hp}{s7:Shared},aL M (a++uP fp s5.heap) al H7 s7->aL M a (fX ds k P) H7 s7/\tn (i+1) s7.heap/\∀b∈fp,H7 b=none:=λ{H7 s7}I7=>by
    refine⟨I7.unpinned.weak ci.symm λj v e=>?_,T.keep _ _ _ a6 λb G o e=>(I7.pin (b,o) (pa _ (pa _ (lN G e)))).1,λb G=>?_⟩
    ·rw[a7 j λz=>hj P I.len j z v e];exact e
    ·obtain⟨o,e,d⟩:=T.obj _ _ a6 b G;exact(I7.pin (b,o) (pa _ (pa _ (lN G e)))).2.1
   have pt:=bK _ s6 al H6 _ I6 q6;rw[xp,xw,xA,F,xe]at pt;refine cy pt λok s7⟨H7,I7,q7⟩=>?_;cases ok with|false=>obtain⟨m',hm,w7⟩:=q7;obtain⟨a1,a2,a3⟩:=again I7;exact⟨m',hm,i+1,O,H7,a1,a2,a3,w7⟩|true=>have pe:=bN _ s7 al H7 _ I7 q7;rw[xp,xw,xA,F,xe]at pe;refine cy pe λyv s8⟨y,H8,I8,r8,c4,cE,m',hm,w8⟩=>?_;have ap:=dG (X:=M) _ s8 al H8 (.ref t.heap.objs.size) [y] _ [yv] (λv H9=>H9=az H8 t.heap.objs.size (.lst (O++[y]))) I8 rfl (.cons r8 .nil) ⟨_,O,y,rfl,rfl,c4,cE,rfl⟩;rw[xp,xw,xA,xe]at ap;refine cy ap λ_ s9⟨_,H9,I9,_,e9⟩=>?_;subst e9;obtain⟨a1,a2,a3⟩:=again I9;exact⟨m',hm,i+1,O++[y],_,a1,a2,a3,w8⟩
 exact codeAny_compStart_list an (T.self _ 0 _ _ _ b8 an)
def Ju(f:RI)(ds:RL)(k:Nat)(hc:X.calm=true)(hi:PI X t b w)(z:∀cl C s₀ H₀ ex,PG (X.comp scope f cl C s₀ H₀ ex) t g/\KD (X.comp scope f cl C s₀ H₀ ex) o tc/\PE (X.comp scope f cl C s₀ H₀ ex) p te)(hg:GK g A)(B:∀r:St,r.length=X.N.length->∀j∈A,∀v,(fX ds k r)[j]?≠some (some v))(c:scope.kind=.function)(d:∀y∈scope.names,y.2≠.cell)(a:∀y∈scope.names,y.2=.local->scope.names.lookup y.1=some .local)(e:∀y∈scope.names,y.2=.free->X.env.scope.names.lookup y.1=some .cell\/X.env.scope.names.lookup y.1=some .free)(E:f=X.N++l)(F:l.length=k)(n:∀i x,X.N[i]?=some x->scope.names.lookup x=some .local->i∈ds)(G:∀x,foldedSetIterable b X.env x=pure x:=by intro _;rfl):PE X (.ListComp p [⟨t,b,o,0⟩] scope J) (uo w g ds k tc te):=by intro u s r H Q I h;rw[eval_ListComp];refine xP f ds k hc hi z hg B c d a e E F n G I h λD C K P m L q hn n1 n2 n3 n4 M=>?_;exact⟨m,hn,λh' O=>⟨.ref D,K,L.block_gone n1 n2 n3 n4 M O,rfl,q⟩⟩
def Jn(r:RI)(ds:RL)(k:Nat)(G:X.N.Nodup)(J:X.N[i]?=some x)(R:MZ X.env.scope x)(S:X.fn x=true\/X.env.scope.names.lookup x=some .local)(L:swapsWith (.ListComp f [⟨F,b,l,0⟩] scope t) (some (.Name x c)) u.line X.env=pure true)(hc:X.calm=true)(hi:PI X F b T)(W:∀cl C s₀ H₀ ex,PG (X.comp scope r cl C s₀ H₀ ex) F g/\KD (X.comp scope r cl C s₀ H₀ ex) l tc/\PE (X.comp scope r cl C s₀ H₀ ex) f te)(hg:GK g Z)(hj:∀M:St,M.length=X.N.length->∀j∈Z,∀v,(fX ds k M)[j]?≠some (some v))(n:scope.kind=.function)(o:∀y∈scope.names,y.2≠.cell)(d:∀y∈scope.names,y.2=.local->scope.names.lookup y.1=some .local)(p:∀y∈scope.names,y.2=.free->X.env.scope.names.lookup y.1=some .cell\/X.env.scope.names.lookup y.1=some .free)(hN:r=X.N++w)(hk:w.length=k)(B:∀i x,X.N[i]?=some x->scope.names.lookup x=some .local->i∈ds)(hs:∀x,foldedSetIterable b X.env x=pure x:=by intro _;rfl):PS X (.Assign [.Name x c] (.ListComp f [⟨F,b,l,0⟩] scope t) u) (zT (uo T g ds k tc te) (i0 i)):=by
 intro E s M H D I h;rw[exec_Assign_Name_used _ _ _ _ L];refine a_ (wpAny_standAt (a_ ?_));show wpAny _ X.A (do let _<-comprehension (.ListComp f [⟨F,b,l,0⟩] scope t) scope X.env _ (newList []) false (eval b X.env) (some (assign (.Name x c) X.env))) _ _ s;refine a_ (wpAny_mono (xP (QV:=λ_ K=>SP X E D .next K) (use:=some (assign (.Name x c) X.env)) r ds k hc hi W hg hj n o d p hN hk B hs I h λDa C V K m Y q hn n1 n2 n3 n4 n5=>?_) (λ_ K hq=>e_ (e_ hq)) λ_ _ e=>e)
 show wpAny _ X.A (assign (.Name x c) X.env (.ref Da)) _ _ _;refine wpAny_assign_Name (xm Y G J R (v:=.ref Da) rfl (λaa O⟨a,sb,ha⟩=>?_) S);have P:C≠a:=by
  rcases ha with z|z
  ·rw[z];exact n2
  ·exactλe=>n4 x a z e.symm
 exact⟨m,hn.sameBut sb P,λh' Q=>⟨_,V,O.block_gone n1 n2 n3 n4 n5 Q,q⟩⟩
def rY(N0:RI)(ds:RL)(a scope:Scope):Bool:=scope.kind==.function&&scope.names.all (λy=>!(y.2==.cell)&&(!(y.2==.local)||scope.names.lookup y.1==some .local)&&(!(y.2==.free)||(a.names.lookup y.1==some .cell||a.names.lookup y.1==some .free)))&&N0.zipIdx.all λp=>!(scope.names.lookup p.1==some .local)||ds.contains p.2
def vz{N0:RI}{ds f:RL}{a scope:Scope}{k:Nat}(ok:rY N0 ds a scope=true)(c:(f.all λj=>ds.contains j||decide (N0.length<=j))=true):(∀d:St,d.length=N0.length->∀j∈f,∀v,(fX ds k d)[j]?≠some (some v))/\scope.kind=.function/\(∀y∈scope.names,y.2≠.cell)/\(∀y∈scope.names,y.2=.local->scope.names.lookup y.1=some .local)/\(∀y∈scope.names,y.2=.free->a.names.lookup y.1=some .cell\/a.names.lookup y.1=some .free)/\(∀i x,N0[i]?=some x->scope.names.lookup x=some .local->i∈ds):=by
 unfold rY at ok;rw[n7,n7]at ok;obtain⟨⟨h1,h2⟩,h3⟩:=ok;have h2:=List.all_eq_true.mp h2;have h3:=List.all_eq_true.mp h3;have c:=List.all_eq_true.mp c;refine⟨?_,(by simpa using h1),?_,?_,?_,?_⟩
 ·intro d m j hm v e;obtain⟨_,g,n⟩:=A5 e;have:=c j hm;rw[Bool.or_eq_true]at this;rcases this with z|z
  ·exact g (by simpa using z)
  ·have:=lh z;lia
 ·intro y b e;have:=h2 y b;rw[n7,n7]at this;have z:=this.1.1;rw[e]at z;exact absurd z (by decide)
 ·intro y b e;have:=h2 y b;rw[n7,n7]at this;have z:=this.1.2;rw[e]at z;simpa using z
 ·intro y b e;have:=h2 y b;rw[n7,n7]at this;have z:=this.2;rw[e]at z;simpa using z
 ·intro i x h l;have:=h3 (x,i) (by rw[List.mem_zipIdx_iff_getElem?];exact h);rw[Bool.or_eq_true]at this;rcases this with z|z
  ·rw[l]at z;exact absurd z (by decide)
  ·simpa using z
def Kl(N0 a:RI)(ds n:RL)(c:Scope){d f b:Expr}{e:RJ}{scope:Scope}{h:Pos}{o:TI}{g:TG}{tc:TT}{te:TE}(hc:X.calm=true)(i:X.N=N0)(l:X.env.scope=c)(ok:rY N0 ds c scope=true)(p:(n.all λj=>ds.contains j||decide (N0.length<=j))=true)(hg:GK g n)(hi:PI X f b o)(q:∀cl C s₀ H₀ ex,PG (X.comp scope (N0++a) cl C s₀ H₀ ex) f g/\KD (X.comp scope (N0++a) cl C s₀ H₀ ex) e tc/\PE (X.comp scope (N0++a) cl C s₀ H₀ ex) d te)(r:∀x,foldedSetIterable b X.env x=pure x:=by intro _;rfl):PE X (.ListComp d [⟨f,b,e,0⟩] scope h) (uo o g ds a.length tc te):=by subst i;subst l;obtain⟨h1,h2,h3,h4,h5,h6⟩:=vz ok p;exact Ju (X.N++a) ds a.length hc hi q hg h1 h2 h3 h4 h5 rfl rfl h6 r
def HI(N0 a:RI)(ds t:RL)(e:Scope){i:Nat}{x:Str}{c d:Pos}{f n b:Expr}{h:RJ}{scope:Scope}{l:Pos}{u:TI}{g:TG}{tc:TT}{te:TE}(hc:X.calm=true)(o:X.N=N0)(p:X.env.scope=e)(ok:rY N0 ds e scope=true)(w:(t.all λj=>ds.contains j||decide (N0.length<=j))=true)(hg:GK g t)(hi:PI X n b u)(y:∀cl C s₀ H₀ ex,PG (X.comp scope (N0++a) cl C s₀ H₀ ex) n g/\KD (X.comp scope (N0++a) cl C s₀ H₀ ex) h tc/\PE (X.comp scope (N0++a) cl C s₀ H₀ ex) f te)(q:N0.Nodup)(r:N0[i]?=some x:=by rfl)(v:e.names.lookup x=some .local:=by rfl)(s:swapsWith (.ListComp f [⟨n,b,h,0⟩] scope l) (some (.Name x c)) d.line X.env=pure true:=by rfl)(z:∀x,foldedSetIterable b X.env x=pure x:=by intro _;rfl):PS X (.Assign [.Name x c] (.ListComp f [⟨n,b,h,0⟩] scope l) d) (zT (uo u g ds a.length tc te) (i0 i)):=by subst o;subst p;obtain⟨h1,h2,h3,h4,h5,h6⟩:=vz ok w;exact Jn (X.N++a) ds a.length q r (.inl v) (.inr v) s hc hi y hg h1 h2 h3 h4 h5 rfl rfl h6 z
end
end L2
namespace L2
open PySem PySem.Spec PyProof.Rows
section
variable{X:Cx}
def Bk:cN X (.builtin "isinstance") (λa H Q=>∃x T t b,a=[x,.ty T]/\nH X.K H x t/\PySem.W.kitOne X.K t (.type T)=some b/\Q (.bl b) H):=by intro c s g H a i Q I r h;obtain⟨x,T,t,b,rfl,ty,e,q⟩:=h;obtain⟨u,d,rfl,f,rt⟩:=xi r;obtain rfl:d=Value.type T:=rt;exact EG I f ty e λtk=>⟨.bl b,H,I.tok tk,rfl,q⟩
def xR{bs:List Bool}{a:RG}(r:aY (bs.map V.bl) a){i:Nat}{v:Value}(h:a[i]?=some v):∃b,bs[i]?=some b/\v=.bool b:=by
 have d:=r.length;rw[c_]at d;have hi:i<a.length:=(d_.mp h).1;have c:bs[i]?=some bs[i]:=by simp
 obtain⟨u,h1,h2⟩:=r.get (i:=i) (x:=.bl bs[i]) (by rw[ig,c];rfl);rw[h]at h1;cases h1;exact⟨bs[i],c,h2⟩
def Ej{bs:List Bool}:((List.range bs.length).all λi=>bs.getD i true)=bs.all id:=by induction bs with|nil=>rfl|cons b r a=>
  rw[oi,List.range_succ_eq_map,P8,List.all_map,P8]
  congr 1
def Ei{bs:List Bool}:((List.range bs.length).any λi=>bs.getD i true)=bs.any id:=by induction bs with|nil=>rfl|cons b r a=>
  rw[oi,List.range_succ_eq_map,w1,List.any_map,w1]
  congr 1
def G8{A:Around}(h:A.handled=none):A.in1.handled=none:=h
def Fb(hc:X.calm=true):cN X (.builtin "all") (λg H Q=>∃(p:Addr)(bs:List Bool),g=[.ref p]/\aO X.K H p (bs.map V.bl)/\Q (.bl (bs.all id)) H):=by
 intro j s A H g B Q I r h;obtain⟨p,bs,rfl,m,q⟩:=h;obtain⟨u,rfl,t⟩:=jV r;cases t;obtain⟨a,k,pl,C⟩:=I.list m;refine call_all_walk (O_ pl.isList ?_);have d:p≠s.heap.objs.size:=k4 (by obtain⟨o,n,e,_⟩:=pl;exact iq e);have l:=k.length;rw[c_]at l;refine⟨s.heap.objs.size,_,_,_,_,_,λi=>bs.getD i true,rfl,Walks.list (G8 (I.ok.hd hc)) s.heap.objs.size p d a.toArray,⟨⟨_,g_ _ rfl,rfl,rfl⟩,?_⟩,?_,?_⟩
 ·exact pl.isList.push _
 ·intro i v w x D f c;have f:a.toArray[i]?=some v:=f;obtain⟨b,y,rfl⟩:=xR k (i:=i) (v:=v) (by simpa using f);refine sf ?_;have e:bs.getD i true=b:=by simp[List.getD,y]
  have c:x (bs.getD i true) w:=c;rw[e]at c;exact c
 ·intro h' tk z;have e:((List.range a.toArray.size).all λi=>bs.getD i true)=bs.all id:=by rw[j_,<-l,Ej]
  rw[e];exact⟨.bl _,H,I.kept (h':=h') (t':=tk) λb o e=>z b o (by simp[k4 (iq e)]) (b_ _ e),rfl,q⟩
def Fa(hc:X.calm=true):cN X (.builtin "any") (λg H Q=>∃(p:Addr)(bs:List Bool),g=[.ref p]/\aO X.K H p (bs.map V.bl)/\Q (.bl (bs.any id)) H):=by
 intro j s A H g B Q I r h;obtain⟨p,bs,rfl,m,q⟩:=h;obtain⟨u,rfl,t⟩:=jV r;cases t;obtain⟨a,k,pl,C⟩:=I.list m;refine call_any_walk (O_ pl.isList ?_);have d:p≠s.heap.objs.size:=k4 (by obtain⟨o,n,e,_⟩:=pl;exact iq e);have l:=k.length;rw[c_]at l;refine⟨s.heap.objs.size,_,_,_,_,_,λi=>bs.getD i true,rfl,Walks.list (G8 (I.ok.hd hc)) s.heap.objs.size p d a.toArray,⟨⟨_,g_ _ rfl,rfl,rfl⟩,?_⟩,?_,?_⟩
 ·exact pl.isList.push _
 ·intro i v w x D f c;have f:a.toArray[i]?=some v:=f;obtain⟨b,y,rfl⟩:=xR k (i:=i) (v:=v) (by simpa using f);refine sf ?_;have e:bs.getD i true=b:=by simp[List.getD,y]
  have c:x (bs.getD i true) w:=c;rw[e]at c;exact c
 ·intro h' tk z;have e:((List.range a.toArray.size).any λi=>bs.getD i true)=bs.any id:=by rw[j_,<-l,Ei]
  rw[e];exact⟨.bl _,H,I.kept (h':=h') (t':=tk) λb o e=>z b o (by simp[k4 (iq e)]) (b_ _ e),rfl,q⟩
def KH(x:Str):It:=⟨λi _=>i<x.cps.size,λi H y a=>a=H/\∃c,x.cps[i]?=some c/\y=.str ⟨#[c]⟩,λi _=>x.cps.size<=i⟩
def Ft{P:RH}{w:World}{K:RC}{G:Expr}(a:Addr)(x:Str)(t:Tok)(f:String)(hn:["enumerate","zip","dict_itemiterator","dict_reverseitemiterator","odict_iterator","itertools.zip_longest","itertools.pairwise"].contains f=false)(W:∀A:Around,A.handled=none->Walks P w A a [a] [a] x.cps.size (SignAt x) (λi h=>h.IsStrIter a f x t i))(S:∀(A:Around)(i:Nat)(s:Shared)(Q:RD)(E:RD),s.heap.IsStrIter a f x t i->Q (.ref a) s->wpAny (model P w) A (pyIter (.ref a)) Q E s):vK P w K G (KH x) [a] a (λi h=>i<=x.cps.size/\h.IsStrIter a f x t i)where
 mem:=by simp
 obj:=λi h st b j=>by
  have e:b=a:=by simpa using j
  subst e;obtain⟨_,o,e,c,d⟩:=st;exact⟨o,e,λv z=>by rw[d]at z;cases z⟩
 keep:=λi h h' st k=>by obtain⟨l,o,e,r⟩:=st;exact⟨l,o,k a (by simp) o e,r⟩
 item:=by intro X p q y hc i g s F H E I n st hg;subst p q y;obtain⟨B,f1,f2,f3,f4,f5⟩:=n a (by simp);refine(W X.A (I.ok.hd hc)).item i s _ _ hg st.2 λv h' tk J m C=>?_;obtain⟨c,u,D,rfl⟩:=J;have I1:aL X g F H {s with heap:=h',toks:=tk}:=I.turned (λb o j e=>C b o (by simpa using j) e) B f1 f3 f4 f5;obtain⟨o,e,L,d⟩:=id m;have M:i<x.cps.size:=hg;exact⟨_,rfl,xF (s:={s with heap:=h',toks:=tk}) e L d hn ⟨.str ⟨#[c]⟩,H,I1,⟨u,rfl⟩,⟨rfl,c,D,rfl⟩,⟨by omega,m⟩,λb j=>(n b j).1⟩⟩
 done:=by intro X p q y hc i g s F H E I n st hg;subst p q y;obtain⟨B,f1,f2,f3,f4,f5⟩:=n a (by simp);have e:i=x.cps.size:=Nat.le_antisymm st.1 hg;subst e;exact(W X.A (I.ok.hd hc)).done s _ _ st.2 λh' tk C=>⟨rfl,I.turned (λb o j e=>C b o (by simpa using j) e) B f1 f3 f4 f5⟩
 self:=λA i s Q E st h=>S A i s Q E st.2 h
def Pg(a:TE):TI:=λb H R=>a b H λv c=>∃x,v=.str x/\R (KH x) c
def Gc{g l:Expr}{j:TE}(n:PE X l j):PI X g l (Pg j):=by
 intro d s k H R I h;refine cy (n d s k H _ I h) λv a⟨y,p,I1,r,u⟩=>?_;obtain⟨x,e,q⟩:=u;subst e;obtain⟨t,rfl⟩:=r;have fin:∀(c:String)(ob:Obj),(["enumerate","zip","dict_itemiterator","dict_reverseitemiterator","odict_iterator","itertools.zip_longest","itertools.pairwise"].contains c=false)->(∀A:Around,A.handled=none->Walks X.prog X.w A a.heap.objs.size [a.heap.objs.size] [a.heap.objs.size] x.cps.size (SignAt x) (λi h=>h.IsStrIter a.heap.objs.size c x t i))->(∀(A:Around)(i:Nat)(s:Shared)(Q:RD)(E:RD),s.heap.IsStrIter a.heap.objs.size c x t i->Q (.ref a.heap.objs.size) s->wpAny (model X.prog X.w) A (pyIter (.ref a.heap.objs.size)) Q E s)->(a.heap.push ob).IsStrIter a.heap.objs.size c x t 0->Pq X d k g R (.ref a.heap.objs.size) {a with heap:=a.heap.push ob}:=λc ob h1 h2 h3 h4=>by
  refine⟨a.heap.objs.size,[a.heap.objs.size],_,KH x,p,rfl,I1.kept (t':=a.toks) λb o e=>b_ _ e,Ft _ x t c h1 h2 h3,⟨m_ _,h4⟩,λb z=>?_,q⟩;have e:b=a.heap.objs.size:=by simpa using z
  subst e;exact I1.fpOk (f_ _) (I1.hok.fresh (f_ _))
 cases m:x.cps.all (·<128)
 ·exact wpAny_pyIter_wide m (fin "str_iterator" _ (by decide) (λA f=>Walks.strWide f _ x t) (λA i s Q E st h=>wpAny_pyIter_striter_wide st h) ⟨_,g_ _ rfl,rfl,rfl⟩)
 ·exact wpAny_pyIter_ascii m (fin "str_ascii_iterator" _ (by decide) (λA f=>Walks.strAscii f _ x t) (λA i s Q E st h=>wpAny_pyIter_striter_ascii st h) ⟨_,g_ _ rfl,rfl,rfl⟩)
def Kf{x:Str}{g:TG}{l:TS}{D:oW}{a:St}{H:Hp}(Pv:Nat->St->Hp->Prop)(h0:Pv 0 a H)(o:∀i c a H,x.cps.toList[i]?=some c->Pv i a H->g (.str ⟨#[c]⟩) a H λb j=>l {D with nx:=Pv (i+1),ct:=Pv (i+1),bk:=D.nx} b j)(hd:∀a H,Pv x.cps.toList.length a H->D.nx a H):∃W:Nat->Nat->St->Hp->Prop,(∃m,W 0 m a H)/\∀i m a H,W i m a H->((KH x).stop i H/\D.nx a H)\/((KH x).go i H/\∃N:St->Hp->Prop,(∀d f,N d f->∃n,n<m/\W (i+1) n d f)/\∀y f,(KH x).yld i H y f->g y a f λb j=>l {D with nx:=N,ct:=N,bk:=D.nx} b j):=by
 have k:x.cps.toList.length=x.cps.size:=by simp
 refine⟨λi m a H=>m=x.cps.size-i/\i<=x.cps.size/\Pv i a H,⟨x.cps.size,by simp,m_ _,h0⟩,?_⟩;rintro i m a H⟨rfl,hi,p⟩
 by_cases h:i<x.cps.size
 ·refine .inr ⟨h,Pv (i+1),λd f q=>⟨x.cps.size-(i+1),by omega,rfl,h,q⟩,λy f r=>?_⟩;obtain⟨e,c,hc,rfl⟩:=r;subst e;exact o i c a _ (by simpa using hc) p
 ·have e:i=x.cps.size:=by omega
  subst e;exact .inl ⟨f_ _,hd a H (by rw[k];exact p)⟩
def LY:V->List V->Hp->VK->Prop:=λx a H Q=>∃z y i r,x=.str z/\a=[.str y]/\Builtin.Str.occurrences z y 0 z.length 1=i::r/\Q (.int (i:Nat)) H
def GB:Pr X "str.index" LY:=by intro a s e H x f v g Q I b c h;obtain⟨z,y,i,r,rfl,rfl,d,q⟩:=h;obtain⟨t,rfl⟩:=b;obtain⟨u,rfl,j,rfl⟩:=jV c;exact SC.index d ⟨.int _,H,I.tok _,⟨_,rfl⟩,q⟩
end
end L2
namespace L2
open PySem PySem.Spec PyProof.Rows
section
variable{X:Cx}(K:RC)(c:X.K=K)
include c
def aG:cN X (.builtin "len") (λa H Q=>∃x n,a=[x]/\OG K x H n/\Q (.int n) H):=by subst c;exact HN
def jh:cN X (.builtin "isinstance") (λa H Q=>∃x T t b,a=[x,.ty T]/\nH K H x t/\PySem.W.kitOne K t (.type T)=some b/\Q (.bl b) H):=by subst c;exact Bk
def jj(hc:X.calm=true):cN X (.builtin "all") (λa H Q=>∃(p:Addr)(bs:List Bool),a=[.ref p]/\aO K H p (bs.map V.bl)/\Q (.bl (bs.all id)) H):=by subst c;exact Fb hc
def nq(hc:X.calm=true):cN X (.builtin "any") (λa H Q=>∃(p:Addr)(bs:List Bool),a=[.ref p]/\aO K H p (bs.map V.bl)/\Q (.bl (bs.any id)) H):=by subst c;exact Fa hc
def G3:No X (LX K):=by subst c;exact J4
def J3:No X (LW K):=by subst c;exact Mt
def ux:Nl X (NX K):=by subst c;exact Jh
def C5:Nl X (NW K):=by subst c;exact LQ
def oG:lS X (compareOp .In) (rIn K false):=by subst c;exact En
def uU:lS X (binaryOp .Add) (KP K):=by subst c;exact Jz
def oS:cN X (.type "list") (λb H Q=>∃p a,b=[.ref p]/\(aO K H p a\/aT K H p a)/\∀l,H l=none->Q (.ref l) (az H l (.lst a))):=by subst c;exact zu
def fS:cN X (.type "tuple") (λb H Q=>∃p a,b=[.ref p]/\((aO K H p a/\∀l,H l=none->Q (.ref l) (az H l (.tup a)))\/(aT K H p a/\Q (.ref p) H))):=by subst c;exact w9
def cK{b l:Expr}{a:TE}(d:PE X l a):PI X b l (KR K a):=by subst c;exact Jq d
def iC{b l:Expr}{a:TE}(d:PE X l a):PI X b l (Oq K a):=by subst c;exact L1 d
def aM{a:Expr}{d:TE}(f:PE X a d)(g:∀b,isTrue a X.env b=(do let v<-b;standAt a.pos;holding [v] (truthy v))):PT X a (λh H Q=>d h H λx e=>∃k,MU K x e k/\Q k e):=by subst c;exact Ga f g
def gf{f:RJ}{k:Nat}{a:Pos}{t:Nk}{n:Nat}(hc:X.calm=true)(h:MV X f t)(hn:(assignEach f X.env).length=n:=by rfl)(b:(assignEach f X.env).findIdx? (·.1)=none:=by rfl):PG X (.Tuple f k a) (Kc K n t):=by subst c;exact L3 hc h hn b
variable{o e:Expr}{f:RJ}{j:TE}{t:TA}{g:Str}{i d:Pos}{T id:String}{r:V->List V->Hp->VK->Prop}
def gK(p:PlainAttrs T)(slot:Slot T g id)(n:typeOf (.builtin id)=pure (.type "method_descriptor"))(hm:Pr X id r)(q:PE X o j)(s:PA X (e::f) t)(b:attributeBase o g X.env (eval o X.env)=eval o X.env:=by rfl)(l:((backTo d (starEach (e::f) X.env)).all (λx=>!x.1)&&(backToKw d (keywordEach [] X.env)).all (λx=>x.1.isSome)&&decide ((e::f).length+([]:List Keyword).length+(if([]:List Keyword).isEmpty then 0 else 1)<30))=true:=by rfl)(h:(i.endLine==d.line)=true:=by rfl)(u:starEach (e::f) X.env=(false,eval e X.env)::starEach f X.env:=by rfl)(a:(backTo d (starEach f X.env)).any (·.1)=false:=by rfl):PE X (.Call (.Attribute o g i) (e::f) [] d) (tBM K T r j t):=by subst c;exact N5 p slot n hm q s b l h u a
end
end L2
namespace L2
open PySem PySem.Spec PyProof.Rows
def aH:bootBuiltins "len"=some (.builtin "len"):=by decide+kernel
def HR:bootBuiltins "max"=some (.builtin "max"):=by decide+kernel
def vF:bootBuiltins "min"=some (.builtin "min"):=by decide+kernel
def aQ:bootBuiltins "isinstance"=some (.builtin "isinstance"):=by decide+kernel
def k7:bootBuiltins "all"=some (.builtin "all"):=by decide+kernel
def qa:bootBuiltins "any"=some (.builtin "any"):=by decide+kernel
def Bn:bootBuiltins "divmod"=some (.builtin "divmod"):=by decide+kernel
def sU:bootBuiltins "sorted"=some (.builtin "sorted"):=by decide+kernel
def HQ:bootBuiltins "sum"=some (.builtin "sum"):=by decide+kernel
def HS:bootBuiltins "int"=some (.type "int"):=by decide+kernel
def vD:bootBuiltins "str"=some (.type "str"):=by decide+kernel
def Fd:bootBuiltins "bool"=some (.type "bool"):=by decide+kernel
def k6:bootBuiltins "list"=some (.type "list"):=by decide+kernel
def bT:bootBuiltins "tuple"=some (.type "tuple"):=by decide+kernel
def vE:bootBuiltins "set"=some (.type "set"):=by decide+kernel
def vG:bootBuiltins "enumerate"=some (.type "enumerate"):=by decide+kernel
def HP:bootBuiltins "zip"=some (.type "zip"):=by decide+kernel
def xb:bootBuiltins "reversed"=some (.type "reversed"):=by decide+kernel
section
variable{X:Cx}
def jB(hg:Gl X x)(hm:X.mg x=none)(a:bootBuiltins x=some (.type T))(hn:x≠"__name__":=by decide)(hd:(x==("__debug__":Str))=false:=by decide):PE X (.Name x b) (tC (.ty T)):=Jv hg hm a rfl hn hd
def cA(hm:∃u,X.mg x=some u/\aV v u)(hg:Gl X x)(hd:(x==("__debug__":Str))=false:=by decide):PE X (.Name x a) (tC v):=by obtain⟨u,h1,h2⟩:=hm;exact Dc hg h1 h2 hd
end
def fA{K:RC}{A B:String}{b:Bool}(h:(if((Value.type A)==.type B)=true then some true else if PySem.W.kitMeta B=true then(fastBuiltinMro A).map (·.contains (.type B))else none)=some b):PySem.W.kitOne K (.type A) (.type B)=some b:=h
def kW{i j:Int}{A B:Prop}(h1:i=j->A)(h2:i≠j->B):if decide (V.int i=V.int j)=true then A else B:=by
 by_cases h:i=j
 ·subst h;rw[m3 rfl];exact bI (h1 rfl)
 ·rw[nk (λe=>h (V.int.inj e))];exact b0 (h2 h)
def nB{c:Prop}[Decidable c]{A B:Prop}(h1:c->A)(h2:¬c->B):if decide c=true then A else B:=by
 by_cases h:c
 ·rw[m3 h];exact bI (h1 h)
 ·rw[nk h];exact b0 (h2 h)
def y9{b:Bool}{A B:Prop}(h1:b=true->A)(h2:b=false->B):if b=true then A else B:=by cases b with|true=>exact bI (h1 rfl)|false=>exact b0 (h2 rfl)
def aq(h:F (a.set j (some x)) H):i0 j x a H F:=h
def jm(h:F true H):NB a H F:=h
def Me(h:az H a o b=none):b≠a/\H b=none:=by
 by_cases e:b=a
 ·rw[e,O]at h;cases h
 ·rw[am e]at h;exact⟨e,h⟩
def bD(i:Int){n:Int}(h:0<n):0<=i%n/\i%n<n:=⟨Qe _ (by lia),PY _ h⟩
def Mj(x:Int):Builtin.bitAnd x 2147483647=x%2147483648:=PySem.W.kbt_mask x 31
end L2
namespace L2
open PySem PySem.Spec PyProof.Rows
section
variable{X:Cx}
def O9:V->Option Int->Option Int->Hp->VK->Prop:=λx lo hi H Q=>∃z,x=.str z/\z.length<=sizeLine/\Q (.str (Txt.slice z lo hi)) H
def yk:Nl X O9:=by intro a s g H x v n o lo hi sl Q I m b pl d h;obtain⟨z,rfl,c,q⟩:=h;obtain⟨t,rfl⟩:=m;refine⟨"str",_,F.slot_str_getitem.lookup,typeIs_str _ _ _,?_⟩;have fin:∀(e:Tok)(k:Nat),EP X a g Q (.str (Txt.slice z lo hi) e) {s with toks:=k}:=λe k=>⟨.str _,H,I.tok k,⟨_,rfl⟩,q⟩;cases pl with
 |none=>cases d with|none=>exact P0 (l:=none) (u:=none) (st:=none) b rfl (QI ⟨mu (Txt.slice_le z _ _) c,fin⟩)|int j u=>exact P0 (l:=none) (u:=some (j,u)) (st:=none) b rfl (QI ⟨mu (Txt.slice_le z _ _) c,fin⟩)
 |int i f=>cases d with|none=>exact P0 (l:=some (i,f)) (u:=none) (st:=none) b rfl (QI ⟨mu (Txt.slice_le z _ _) c,fin⟩)|int j u=>exact P0 (l:=some (i,f)) (u:=some (j,u)) (st:=none) b rfl (QI ⟨mu (Txt.slice_le z _ _) c,fin⟩)
end
end L2
namespace L2
open PySem PySem.Spec PyProof.Rows
def K3{c:Bool}{t u:TS}{D:oW}{a:St}{H:Hp}(J:St->Hp->Prop)(h1:∀a H,J a H->D.nx a H)(h2:∀N:St->Hp->Prop,(∀a H,J a H->N a H)->if c=true then t {D with nx:=N} a H else u {D with nx:=N} a H):if c=true then t D a H else u D a H:=h2 D.nx h1
def Fl(h:D.nx a H):zS D a H:=h
def ai(h:ao c H)(hn:H a=none):ao c (az H a o):=λb d f=>by have e:=h b d f;rw[am (aD e hn)];exact e
def Br(h0:0<=i)(h1:i<xs.length):∃c,vJ xs i=some c/\c∈xs:=by refine⟨xs[i.toNat]'(by lia),?_,C1 _⟩;unfold vJ J6;rw[i_ h0,i_ h1];show xs[i.toNat]?=_;rw[hY (by lia)]
def dn{n:Nat}(h:n<=65536):n<=sizeLine:=by rw[j1];lia
mutual
inductive DG(K:RC)(H:Hp):V->PyData->Prop|non:DG K H .non .none|bl(b:Bool):DG K H (.bl b) (.bool b)|int(i:Int):DG K H (.int i) (.int i)|str(x:Str):DG K H (.str x) (.str x)|lst{a:Addr}{xs:List V}{ds:List PyData}:aO K H a xs->IsPs K H xs ds->DG K H (.ref a) (.list ds)|tup{a:Addr}{xs:List V}{ds:List PyData}:aT K H a xs->IsPs K H xs ds->DG K H (.ref a) (.tuple ds)
inductive IsPs(K:RC)(H:Hp):List V->List PyData->Prop|nil:IsPs K H [] []|cons{v:V}{d:PyData}{vs:List V}{ds:List PyData}:DG K H v d->IsPs K H vs ds->IsPs K H (v::vs) (d::ds)
end
section
variable{X:Cx}{c:RE}{f:St}{H:Hp}{s:Shared}
mutual
theorem DG.reads(I:aL X c f H s):∀{v:V}{d:PyData}{u:Value},DG X.K H v d->aV v u->∃g,Reads s.heap u d g|_,_,_,.non,r=>by obtain rfl:_=Value.none:=r;exact⟨_,.none⟩|_,_,_,.bl b,r=>by obtain rfl:_=Value.bool b:=r;exact⟨_,.bool b⟩|_,_,_,.int i,r=>by obtain⟨t,rfl⟩:=r;exact⟨_,.int i t⟩|_,_,_,.str x,r=>by obtain⟨t,rfl⟩:=r;exact⟨_,.str x t⟩|_,_,_,.lst (a:=a) h j,r=>by obtain rfl:_=Value.ref a:=r;obtain⟨k,l,⟨o,n,e,hc,_,hd⟩,_⟩:=I.list h;obtain⟨g,q⟩:=IsPs.reads I j l;exact⟨_,.list e hc hd (by simpa using q)⟩|_,_,_,.tup (a:=a) h j,r=>by obtain rfl:_=Value.ref a:=r;obtain⟨k,l,⟨o,e,hc,n,hd⟩,_⟩:=I.tuple h;obtain⟨g,q⟩:=IsPs.reads I j l;exact⟨_,.tuple e hc hd (by simpa using q)⟩
theorem IsPs.reads(I:aL X c f H s):∀{a:List V}{ds:List PyData}{b:RG},IsPs X.K H a ds->aY a b->∃d,ReadsAll s.heap b ds d|_,_,_,.nil,r=>by cases r;exact⟨_,.nil⟩|_,_,_,.cons h e,r=>by cases r with|cons g r2=>obtain⟨d,q⟩:=DG.reads I h g;obtain⟨bs,p⟩:=IsPs.reads I e r2;exact⟨_,.cons q p⟩
end
end
section
variable{X:Cx}
def N2(K:RC):R2:=λx y H Q=>∃d e,DG K H x d/\DG K H y e/\SeqAt.shaped d=true/\SeqAt.shaped e=true/\Q (.bl (PyData.eqv d e)) H
def L9(b:X.A.units+64<cLine):lS X (compareOp .Eq) (N2 X.K):=by intro a s i H x y v u Q I c f h;obtain⟨d,e,h1,h2,h3,h4,q⟩:=h;obtain⟨j,g⟩:=h1.reads I c;obtain⟨bs,r2⟩:=h2.reads I f;exact eq_dataH g r2 h3 h4 b ⟨.bl _,H,I,rfl,q⟩
def Pi{A:Around}{k:Nat}(a:eK k A):A.units+64<cLine:=by have:=a.un;lia
def Jy(K:RC)(a:X.K=K)(b:X.A.units+64<cLine):lS X (compareOp .Eq) (N2 K):=by subst a;exact L9 b
def HL(hc:X.calm=true):cN X (.builtin "sum") (λa H Q=>∃(p:Addr)(ns:RN),a=[.ref p]/\(aO X.K H p (ns.map V.int)\/aT X.K H p (ns.map V.int))/\Q (.int ns.sum) H):=by
 intro j s o H a t Q I r h;obtain⟨p,ns,rfl,d,q⟩:=h;obtain⟨u,rfl,l⟩:=jV r;cases l;have k:∀{b:RG},aY (ns.map V.int) b->∃a:Array (Int×Tok),b.toArray=intItems a/\preSum (numAt a) a.size=ns.sum:=λf=>by
  have hi:IntsAre _ ns:=CA f;obtain⟨a,c⟩:=hi.allInts.items;refine⟨a,c,?_⟩;have m:ns=a.toList.map (·.1):=by rw[<-nums_intItems,<-c];exact hi.numsOf.symm
  rw[preSum_eq,ku (by simp),m]
 rcases d with d|d
 ·obtain⟨b,f,pl,n⟩:=I.list d;obtain⟨a,c,e⟩:=k f;refine sum_intListG (I.ok.hd hc) (xs:=a) (c▸pl.isList) λh' tk g i=>?_;rw[e];exact⟨.int _,H,I.kept (h':=h') (t':=tk) i,⟨_,rfl⟩,q⟩
 ·obtain⟨b,f,pt,n⟩:=I.tuple d;obtain⟨a,c,e⟩:=k f;refine PySem.W.ktm_sumG (I.ok.hd hc) (xs:=a) (c▸pt) λh' tk g i=>?_;rw[e];exact⟨.int _,H,I.kept (h':=h') (t':=tk) i,⟨_,rfl⟩,q⟩
def E3(K:RC)(a:X.K=K)(hc:X.calm=true):cN X (.builtin "sum") (λb H Q=>∃(p:Addr)(ns:RN),b=[.ref p]/\(aO K H p (ns.map V.int)\/aT K H p (ns.map V.int))/\Q (.int ns.sum) H):=by subst a;exact HL hc
end
section
variable{X:Cx}
end
def a0(h:ao d H)(hn:d a=none):ao d (az H a o):=λb f c=>by
 have:b≠a:=λe=>by rw[e,hn]at c;cases c
 rw[am this];exact h b f c
def ak{a:Type}{b:List a}{k:Nat}{v:a}(h:b[k]?=some v):vJ b (k:Int)=some v:=by have c:=(d_.mp h).1;unfold vJ J6;rw[i_ (by lia),i_ (by lia)];exact h
def nr{ns:RN}{k:Int}(h0:0<=k)(h1:k<ns.length):vJ (ns.map V.int) k=some (.int (ns.getD k.toNat 0)):=by obtain⟨n,rfl⟩:∃n:Nat,k=n:=⟨k.toNat,by lia⟩;refine ak ?_;rw[ig,hY (by lia)];simp only[pu,List.getD,hY (show n<ns.length by lia)];rfl
def J5{n:Nat}{k:Int}(h0:0<=k)(h1:k<n):J6 n k=some k.toNat:=by unfold J6;rw[i_ h0,i_ h1]
def AN(ns:RN)(j:Nat)(v:Int):(ns.map V.int).set j (.int v)=(ns.set j v).map V.int:=by rw[List.map_set]
def ao.tseq{K:RC}{H b:Hp}{a:Addr}{c:List V}(e:ao H b)(h:aT K H a c):aT K b a c:=by
 rcases h with h|h
 ·rcases h with h|⟨o,h⟩
  ·exact .inl (.inl (e _ _ h))
  ·exact .inl (.inr ⟨o,e _ _ h⟩)
 ·exact .inr h
@[irreducible]def df:Int:=10^(30:Int).toNat
def zR:df=10^(30:Int).toNat:=by unfold df;rfl
def xk:1000000000000000000<df:=by rw[zR];decide+kernel
section
variable{X:Cx}
def uT:lS X (binaryOp .Pow) (λx y H Q=>x=.int 10/\y=.int 30/\Q (.int df) H):=by intro a s b H x y v u Q I c d h;obtain⟨rfl,rfl,q⟩:=h;rw[zR]at q;exact L8 a s b H _ _ v u Q I c d ⟨10,30,rfl,rfl,⟨by decide,by decide,by decide⟩,q⟩
end
def lf{n i:Nat}{P:Prop}(hi:i<n)(h:P):∃a,a<n-i/\a=n-(i+1)/\i+1<=n/\P:=⟨_,by lia,rfl,hi,h⟩
def fC{K:RC}{lo:Int}{n:Nat}{g:TG}{ds:RL}{k:Nat}{tc:TT}{te:TE}{r:St}{s:Hp}{D:Addr}{F:Hp->Prop}(Pv:Nat->List V->Hp->Prop)(h0:Pv 0 [] (az s D (.lst [])))(t:∀i a c,i<n->Pv i a c->g (.int (lo+i)) (fX ds k r) c λd o=>tc d o λb h=>if b=true then te d h λy j=>j D=some (.lst a)/\a.length<sizeLine/\∃f,f<n-i/\f=n-(i+1)/\i+1<=n/\Pv (i+1) (a++[y]) (az j D (.lst (a++[y])))else∃f,f<n-i/\f=n-(i+1)/\i+1<=n/\Pv (i+1) a h)(hd:∀a c,Pv n a c->F c):∃W:Nat->Nat->List V->Hp->Prop,(∃m,W 0 m [] (az s D (.lst [])))/\∀i m a c,W i m a c->((Iu lo n).stop i c/\F c)\/((Iu lo n).go i c/\∀x q,(Iu lo n).yld i c x q->g x (fX ds k r) q λd o=>tc d o λb h=>if b=true then te d h λy j=>j D=some (.lst a)/\a.length<sizeLine/\∃f,f<m/\W (i+1) f (a++[y]) (az j D (.lst (a++[y])))else∃f,f<m/\W (i+1) f a h):=by
 refine⟨λi m a c=>m=n-i/\i<=n/\Pv i a c,⟨_,rfl,m_ _,h0⟩,?_⟩;rintro i m a c⟨rfl,hi,p⟩
 by_cases l:i<n
 ·refine .inr ⟨l,λx q y=>?_⟩;obtain⟨e,y⟩:=y;subst e y;exact t i a _ l p
 ·have e:i=n:=by lia
  subst e;exact .inl ⟨f_ _,hd a c p⟩
def jg{K:RC}{a:Addr}{xs:List V}{g:TG}{ds:RL}{k:Nat}{tc:TT}{te:TE}{s:St}{t:Hp}{D:Addr}{F:Hp->Prop}(Pv:Nat->List V->Hp->Prop)(h0:Pv 0 [] (az t D (.lst [])))(u:∀i c d,i<=xs.length->Pv i c d->aO K d a xs)(v:∀i x c d,xs[i]?=some x->Pv i c d->g x (fX ds k s) d λf n=>tc f n λb j=>if b=true then te f j λy l=>l D=some (.lst c)/\c.length<sizeLine/\∃h,h<xs.length-i/\h=xs.length-(i+1)/\i+1<=xs.length/\Pv (i+1) (c++[y]) (az l D (.lst (c++[y])))else∃h,h<xs.length-i/\h=xs.length-(i+1)/\i+1<=xs.length/\Pv (i+1) c j)(hd:∀c d,Pv xs.length c d->F d):∃W:Nat->Nat->List V->Hp->Prop,(∃m,W 0 m [] (az t D (.lst [])))/\∀i m c d,W i m c d->((K8 K a).stop i d/\F d)\/((K8 K a).go i d/\∀x o,(K8 K a).yld i d x o->g x (fX ds k s) o λf n=>tc f n λb j=>if b=true then te f j λy l=>l D=some (.lst c)/\c.length<sizeLine/\∃h,h<m/\W (i+1) h (c++[y]) (az l D (.lst (c++[y])))else∃h,h<m/\W (i+1) h c j):=by
 refine⟨λi m c d=>m=xs.length-i/\i<=xs.length/\Pv i c d,⟨_,rfl,m_ _,h0⟩,?_⟩;rintro i m c d⟨rfl,hi,p⟩;have q:=u i c d hi p
 by_cases r:i<xs.length
 ·refine .inr ⟨⟨xs,xs[i],q,by simp[r]⟩,λx o y=>?_⟩;obtain⟨e,y⟩:=y;subst e;exact v i x c _ (y xs q) p
 ·have e:i=xs.length:=by lia
  subst e;exact .inl ⟨⟨xs,q,f_ _⟩,hd c d p⟩
def gt{K:RC}{a:Addr}{xs:List V}{g:TG}{ds:RL}{k:Nat}{tc:TT}{te:TE}{s:St}{t:Hp}{D:Addr}{F:Hp->Prop}(Pv:Nat->List V->Hp->Prop)(h0:Pv 0 [] (az t D (.lst [])))(u:∀i c d,i<=xs.length->Pv i c d->aT K d a xs)(v:∀i x c d,xs[i]?=some x->Pv i c d->g x (fX ds k s) d λf n=>tc f n λb j=>if b=true then te f j λy l=>l D=some (.lst c)/\c.length<sizeLine/\∃h,h<xs.length-i/\h=xs.length-(i+1)/\i+1<=xs.length/\Pv (i+1) (c++[y]) (az l D (.lst (c++[y])))else∃h,h<xs.length-i/\h=xs.length-(i+1)/\i+1<=xs.length/\Pv (i+1) c j)(hd:∀c d,Pv xs.length c d->F d):∃W:Nat->Nat->List V->Hp->Prop,(∃m,W 0 m [] (az t D (.lst [])))/\∀i m c d,W i m c d->((K7 K a).stop i d/\F d)\/((K7 K a).go i d/\∀x o,(K7 K a).yld i d x o->g x (fX ds k s) o λf n=>tc f n λb j=>if b=true then te f j λy l=>l D=some (.lst c)/\c.length<sizeLine/\∃h,h<m/\W (i+1) h (c++[y]) (az l D (.lst (c++[y])))else∃h,h<m/\W (i+1) h c j):=by
 refine⟨λi m c d=>m=xs.length-i/\i<=xs.length/\Pv i c d,⟨_,rfl,m_ _,h0⟩,?_⟩;rintro i m c d⟨rfl,hi,p⟩;have q:=u i c d hi p
 by_cases r:i<xs.length
 ·refine .inr ⟨⟨xs,xs[i],q,by simp[r]⟩,λx o y=>?_⟩;obtain⟨e,y⟩:=y;subst e;exact v i x c _ (y xs q) p
 ·have e:i=xs.length:=by lia
  subst e;exact .inl ⟨⟨xs,q,f_ _⟩,hd c d p⟩
def HH{K:RC}{z:Str}{g:TG}{ds:RL}{k:Nat}{tc:TT}{te:TE}{r:St}{s:Hp}{D:Addr}{F:Hp->Prop}(Pv:Nat->List V->Hp->Prop)(h0:Pv 0 [] (az s D (.lst [])))(t:∀i c a d,z.cps.toList[i]?=some c->Pv i a d->g (.str ⟨#[c]⟩) (fX ds k r) d λf n=>tc f n λb j=>if b=true then te f j λy l=>l D=some (.lst a)/\a.length<sizeLine/\∃h,h<z.cps.toList.length-i/\h=z.cps.toList.length-(i+1)/\i+1<=z.cps.toList.length/\Pv (i+1) (a++[y]) (az l D (.lst (a++[y])))else∃h,h<z.cps.toList.length-i/\h=z.cps.toList.length-(i+1)/\i+1<=z.cps.toList.length/\Pv (i+1) a j)(hd:∀a d,Pv z.cps.toList.length a d->F d):∃W:Nat->Nat->List V->Hp->Prop,(∃m,W 0 m [] (az s D (.lst [])))/\∀i m a d,W i m a d->((KH z).stop i d/\F d)\/((KH z).go i d/\∀x o,(KH z).yld i d x o->g x (fX ds k r) o λf n=>tc f n λb j=>if b=true then te f j λy l=>l D=some (.lst a)/\a.length<sizeLine/\∃h,h<m/\W (i+1) h (a++[y]) (az l D (.lst (a++[y])))else∃h,h<m/\W (i+1) h a j):=by
 refine⟨λi m a d=>m=z.cps.toList.length-i/\i<=z.cps.toList.length/\Pv i a d,⟨_,rfl,m_ _,h0⟩,?_⟩;rintro i m a d⟨rfl,hi,p⟩;have v:z.cps.toList.length=z.cps.size:=by simp
 by_cases q:i<z.cps.size
 ·refine .inr ⟨q,λy o u=>?_⟩;obtain⟨e,c,hc,rfl⟩:=u;subst e;exact t i c a _ (by simpa using hc) p
 ·have e:i=z.cps.toList.length:=by lia
  subst e;exact .inl ⟨by show z.cps.size<=_;lia,hd a d p⟩
section
variable{X:Cx}
end
def G5{i j:Str}{A B:Prop}(h1:i=j->A)(h2:i≠j->B):if decide (V.str i=V.str j)=true then A else B:=by
 by_cases h:i=j
 ·subst h;rw[m3 rfl];exact bI (h1 rfl)
 ·rw[nk (λe=>h (V.str.inj e))];exact b0 (h2 h)
end L2
namespace L2
open PySem PySem.Spec PyProof.Rows
abbrev aZ(led:Bool):Obj:={cls:=.type "set",dict:=none,data:=.set #[] 0 (.fresh 0 0 led)}
def ma{a:Type}[BEq a](b:Nat->a)(i:Nat):List a:=((List.range i).map b).foldl step_dedup []
section
variable{a:Type}[DecidableEq a][BEq a][LawfulBEq a]
def m7(b:Nat->a)(i:Nat):ma b (i+1)=step_dedup (ma b i) (b i):=by show((List.range (i+1)).map b).foldl step_dedup []=_;rw[QM,il,Py];rfl
def AL(b:Nat->a)(i:Nat):(ma b i).length<=i:=by induction i with|zero=>exact f_ 0|succ i c=>
  rw[m7];unfold step_dedup
  split
  ·exact y_ c
  ·rw[iA];exact tx c
def EU(l:List a)(x y:a):(step_dedup l x).any (·==y)=(l.any (·==y)||decide (y=x)):=by
 have hd:decide (y=x)=(x==y):=by
  by_cases e:y=x
  ·rw[m3 e,e,B_]
  ·rw[nk e];exact(Rv (o_ e)).symm
 rw[hd];unfold step_dedup
 split
 ·rename_i h;cases q:(x==y)with|false=>rw[Bool.or_false]|true=>rw[<-eq_of_beq q,h];rfl
 ·rw[List.any_append];simp
def ET(l:List a)(x:a):(step_dedup l x).length=if l.any (·==x)then l.length else l.length+1:=by
 unfold step_dedup
 by_cases h:l.any (·==x)=true
 ·rw[i_ h,i_ h]
 ·rw[ir h,ir h,iA];rfl
end
section
variable{prog:RH}{w:World}{A:Around}{R:Result->Shared->Prop}{c:Type}[DecidableEq c][BEq c][LawfulBEq c]{j a:Addr}{fp g:RM}{G:Array GenState->Array GenState->Prop}{n:Nat}{P:Nat->Value->Prop}{St:Nat->Shared->Prop}
def jL(d:PySem.KeyKind prog w c)(b:Nat->c)(a:Addr)(i:Nat)(h:Heap):Prop:=h.SetOf d a (λq=>(ma b i).any (·==q)) (ma b i).length
def jL.keep{b:PySem.KeyKind prog w c}{d:Nat->c}{i:Nat}{h h':Heap}(f:jL b d a i h)(k:∀o,h.get? a=some o->h'.get? a=some o):jL b d a i h':=by obtain⟨o,l,m,p,e,r⟩:=f;exact⟨o,l,m,p,k o e,r⟩
def z9(h:PySem.KeyKind prog w c)(r:WalksS prog w A.in1 j fp g G n P St)(D:a∉fp)(l:Nat->c)(t:∀i v,P i v->h.is (l i) v=true/\v.scannable=true)(E:n+1<scanBound):∀(d i:Nat)(s:Shared),n-i=d->i<=n->St i s->jL h l a i s.heap->(∀p,Moved (a::g) G s p->jL h l a n p.heap->R (.ok (.ret .none)) p)->codeAny (model prog w) A (.builtin "set.update.loop" ⟨[.ref a,.ref j],[]⟩) R s:=by
 have aw:a∉g:=λz=>D (r.sub _ z);have up:∀b∈g,b∈a::g:=λb z=>kw _ z;intro d
 induction d with|zero=>
  intro i s hd hi st f k;obtain rfl:i=n:=by lia
  refine vl P1 ?_;rw[y2 z0 _];refine a_ (m:=pyNext (.ref j)) (r.done s _ _ st λp u=>?_);exact e_ (k p (u.mono up) (f.keep λo e=>u.heap a o aw e))|succ d J=>
  intro i s hd hi st f k;have lt:i<n:=by lia
  refine vl P1 ?_;rw[y2 z0 _];refine a_ (m:=pyNext (.ref j)) (r.item i s _ _ lt st λv p Y x u=>?_);obtain⟨H,K⟩:=t i v Y;have L:jL h l a i p.heap:=f.keep λo e=>u.heap a o aw e;refine a_ (m:=holding [v] (setAdd a v)) (p_ ?_);unfold setAdd;refine p_ (a_ (h.pyHash (k:=l i) H ?_));have M:(ma l i).length+1<scanBound:=by have:=AL l i;lia
  refine wpAny_setAddHashed_of (knd:=h) (s:={p with toks:=p.toks+1}) H K L M λh' I f2=>?_;have f3:jL h l a (i+1) h':=SetOf_congr f2 (λq=>by rw[m7,EU]) (by rw[m7,ET]);refine e_ ⟨PQ z0 _,J (i+1) _ (by lia) lt (r.frame _ p _ _ x (rk _) λb z o e=>?_) f3 λy B f4=>?_⟩
  ·exact(I.2 b λC=>D (C▸z)).trans e
  ·refine k y (Moved.trans r.gtrans ((u.mono up).then_heap (rk _) λb o z e=>?_) B) f4;exact(I.2 b λC=>z (C▸l_)).trans e
end
section
variable{prog:RH}{w:World}{A:Around}{E:RD}{s:Shared}{d:Type}[DecidableEq d][BEq d][LawfulBEq d]
set_option maxHeartbeats 3200000 in
def zZ(n:PySem.KeyKind prog w d)(hh:A.handled=none)(P:s.heap.IsList l h)(t:∀i v,h[i]?=some v->n.is (key i) v=true/\v.scannable=true)(x:h.size+1<scanBound)(k:∀(h':Heap)(tk:Nat),jL n key s.heap.objs.size h.size h'->(∀b o,s.heap.get? b=some o->h'.get? b=some o)->Q (.ref s.heap.objs.size) {s with heap:=h',toks:=tk}):wpAny (model prog w) A (call (.type "set") [.ref l]) Q E s:=by
 obtain⟨c,X,I⟩:=F.called_set.mro;have made:=F.called_set.made;have sub:=F.called_set.sub;have Y:=F.called_set.notType;have Z:=F.called_set.canCreate;have tc:=Rp (.ref l);refine QE (QJ ?_);show wpAny _ _ (callAny (.type "set") _) _ _ _;refine e_ ⟨Q3 _ (by decide+kernel),vl Re ?_⟩;rw[Q4 (QO "set" [.ref l] []) rfl]
 (repeat(any_goals(first|assumption|wp_step)));skip
 refine t0 (code_set_new_1 (.ref l) (E:=E) (Q₁:=λu s₁=>∃led:Bool,u=.ref s.heap.objs.size/\s₁={s with heap:=s.heap.push (aZ led)}) λled=>⟨led,rfl,rfl⟩) λr s₁ C=>?_;cases r with|error e=>exact C|ok O=>cases O with
 |ret u=>
   obtain⟨led,rfl,rfl⟩:=C;have K:(s.heap.push (aZ led)).get? s.heap.objs.size=some (aZ led):=g_ _ rfl;have ty:Shared.TypeIs {s with heap:=s.heap.push (aZ led)} (.ref s.heap.objs.size) "set":=⟨_,K,rfl⟩;have li:=F.called_set.init.lookup;have bi:=F.called_set.init.bind (.ref s.heap.objs.size)
   (repeat(any_goals(first|assumption|wp_step)));skip
   refine t0 (QT (R:=wants (λr m=>r=.none/\∃h' tk,m={s with heap:=h',toks:=tk}/\jL n key s.heap.objs.size h.size h'/\∀b o,s.heap.get? b=some o->h'.get? b=some o) E) F.called_set.init.plain Rr (Rk ty ?_)) λy m j=>?_
   ·obtain⟨⟨cl,S,dt,sl⟩,e,L,M,N⟩:=id P;simp only at L N;subst L;subst N;have T:(s.heap.push (aZ led)).get? l=some {cls:=.type "list",dict:=S,data:=.seq h M,slots:=sl}:=b_ _ e;have s1:=F.sub_list_set;have s2:=F.sub_list_frozenset;have ne:(Value.type "list"==Value.type "dict")=false:=by decide
    have z:(s.heap.push (aZ led)).IsList l h:=⟨_,T,rfl,M,rfl⟩;unfold Builtin.«set.__init__»noKeywords Builtin.Frozenset.updateFrom;generalize D:pyIter=PI;wp_walk;subst D;refine O_ z ?_;refine a_ (QQ ?_);have lt:l<s.heap.objs.size:=iq e;have sz:(s.heap.push (aZ led)).objs.size=s.heap.objs.size+1:=n_ ..;refine z9 n ((Walks.list (A:=A.in1.in1.in1) (by simp[hh]) _ l (by rw[sz];exact k4 (ri lt)) h).toS) (a:=s.heap.objs.size) (by rw[sz];simp only[pv,oe,w_,not_or];exact⟨k4 (rx _),ot lt⟩) key t x (h.size-0) 0 _ (by lia) (m_ _) ⟨⟨_,g_ _ rfl,rfl,rfl⟩,z.push _⟩ ?f0 ?fR
    case f0=>have g:((s.heap.push (aZ led)).push {cls:=.type "list_iterator",data:=.fields #[.ref l,.int 0 0]}).get? s.heap.objs.size=some (aZ led):=b_ _ K;exact SetOf_congr ((setObjOf_fresh (knd:=n) led).setOf g (by unfold scanBound;lia)) (λ_=>rfl) rfl
    case fR=>rintro⟨h',U,V,G,H⟩B f;obtain rfl:U=s.gens:=B.gens;obtain rfl:V=s.drawn:=B.drawn;obtain rfl:H=s.os:=B.os;show wpAny _ _ _ _ _ _;refine e_ (show wpAny _ _ (ret Value.none) _ _ _ from e_ ⟨rfl,h',G,rfl,f,λb o q=>?_⟩);have b1:b<s.heap.objs.size:=iq q;exact B.heap b o (by rw[sz];simp only[pv,oe,w_,not_or];exact⟨k4 b1,k4 (ri b1)⟩) (b_ _ (b_ _ q))
   ·cases y with|error e=>exact j|ok p=>cases p with|ret r=>
      obtain⟨rfl,h',tk,rfl,f,W⟩:=j
      (repeat(any_goals(first|assumption|wp_step)));exact k _ _ f W|_=>exact j.elim
  |_=>exact C.elim
end
end L2
namespace L2
open PySem PySem.Spec PyProof.Rows
instance(priority:=10000)keyBEq:BEq (Sum Int Str):=⟨λa b=>decide (a=b)⟩
instance(priority:=10000)keyLaw:LawfulBEq (Sum Int Str)where
 eq_of_beq:=λh=>lh h
 rfl:=m3 rfl
def dd{a:Type}[BEq a](b:List a):List a:=b.foldl step_dedup []
def BS(a:List b)(d:b):(List.range a.length).map (λi=>a.getD i d)=a:=by refine List.ext_getElem (by simp) λi h1 h2=>?_;simp[List.getD,hY h2]
def yI[BEq b](a:List b)(d:b):ma (λi=>a.getD i d) a.length=dd a:=by unfold ma dd;rw[BS]
abbrev Aa(P:RH)(w:World)(q:Addr)(S:bL->Bool)(n:Nat):HO:=.ext λh=>h.SetOf (aK P w) q S n
section
variable{X:Cx}
def y8(r:aV (kV k) v):nU k v=true/\v.scannable=true:=by cases k with|inl i=>obtain⟨t,rfl⟩:=r;exact⟨xD i t,rfl⟩|inr x=>obtain⟨t,rfl⟩:=r;exact⟨xC x t,rfl⟩
def HM(hc:X.calm=true):cN X (.type "set") (λd H Q=>∃(p:Addr)(a:List bL),d=[.ref p]/\aO X.K H p (a.map kV)/\a.length<4000/\∀q,H q=none->Q (.ref q) (az H q (Aa X.prog X.w q (λk=>(dd a).any (·==k)) (dd a).length))):=by
 intro j s J H d L Q I r h;obtain⟨p,a,rfl,z,l,q⟩:=h;obtain⟨u,rfl,A⟩:=jV r;cases A;obtain⟨b,m,pl,M⟩:=I.list z;have n:=m.length;rw[c_]at n;refine zZ (aK X.prog X.w) (key:=λi=>a.getD i (.inl 0)) (I.ok.hd hc) pl.isList (λi v c=>?_) (by rw[j_];unfold scanBound;lia) λh' tk f C=>?_
 ·have c:b[i]?=some v:=by simpa using c
  have hi:i<b.length:=(d_.mp c).1;obtain⟨u,h1,h2⟩:=m.get (i:=i) (x:=kV (a[i]'(by lia))) (by rw[ig,hY (by lia)];rfl);rw[c]at h1;cases h1;have e:a.getD i (.inl 0)=a[i]'(by lia):=by simp[List.getD,hY (show i<a.length by lia)]
  show(aK X.prog X.w).is (a.getD i (.inl 0)) v=true/\_;rw[e,oI];exact y8 h2
 ·have f:h'.SetOf (aK X.prog X.w) s.heap.objs.size (λk=>(dd a).any (·==k)) (dd a).length:=by
   have y:h'.SetOf (aK X.prog X.w) s.heap.objs.size (λk=>(ma (λi=>a.getD i (.inl 0)) b.toArray.size).any (·==k)) (ma (λi=>a.getD i (.inl 0)) b.toArray.size).length:=f;have D:b.toArray.size=a.length:=by rw[j_];exact n.symm
   rw[D,yI]at y;exact y
  refine⟨.ref s.heap.objs.size,_,I.laid (h':=h') (t':=tk) (o:=Aa X.prog X.w s.heap.objs.size (λk=>(dd a).any (·==k)) (dd a).length) C (f_ _) ⟨f,?_,λh1 h2 g E=>?_⟩,rfl,q _ (I.hok.fresh (f_ _))⟩
  ·obtain⟨o,_,_,_,e,_⟩:=f;exact⟨o,e⟩
  ·obtain⟨o,F,G,t,e,mz⟩:=g;exact⟨o,F,G,t,E o e,mz⟩
def E8:cN X (.builtin "len") (λa H Q=>∃(p:Addr)(S:bL->Bool)(n:Nat),a=[.ref p]/\H p=some (Aa X.prog X.w p S n)/\n<=4096/\Q (.int n) H):=by intro b s i H a j Q I r h;obtain⟨p,S,n,rfl,c,hn,q⟩:=h;obtain⟨u,rfl,d⟩:=jV r;cases d;obtain⟨f,_,_⟩:=I.hok p _ c;obtain⟨o,k,l,t,e,ex,hd,_,_,_,g,rfl⟩:=f;exact call_len_set e ex hd g (by lia) ⟨.int _,H,I.tok _,⟨_,rfl⟩,q⟩
def E6(K:RC)(b:X.K=K)(hc:X.calm=true)(c:X.prog=P:=by rfl)(d:X.w=w:=by rfl):cN X (.type "set") (λe H Q=>∃(p:Addr)(a:List bL),e=[.ref p]/\aO K H p (a.map kV)/\a.length<4000/\∀q,H q=none->Q (.ref q) (az H q (Aa P w q (λk=>(dd a).any (·==k)) (dd a).length))):=by subst b;subst c;subst d;exact HM hc
def vA(a:X.prog=P:=by rfl)(b:X.w=w:=by rfl):cN X (.builtin "len") (λc H Q=>∃(p:Addr)(S:bL->Bool)(n:Nat),c=[.ref p]/\H p=some (Aa P w p S n)/\n<=4096/\Q (.int n) H):=by subst a;subst b;exact E8
end
theorem rS[BEq b]:∀(c:List b)(a:List b),(c.foldl step_dedup a).length<=a.length+c.length
 |[],a=>f_ _|k::r,a=>by
  have:=rS r (step_dedup a k);have h2:(step_dedup a k).length<=a.length+1:=by
   unfold step_dedup
   split
   ·exact rk _
   ·rw[iA];exact f_ _
  rw[z7,oi];lia
theorem Bc[DecidableEq d][BEq d][LawfulBEq d]:∀(f c:List d),c.Nodup->((f.foldl step_dedup c).length=c.length+f.length↔(c++f).Nodup)
 |[],c,h=>by simp[h]|k::r,c,h=>by
  rw[z7]
  by_cases e:c.any (·==k)=true
  ·have g:step_dedup c k=c:=by unfold step_dedup;rw[i_ e]
   have hm:k∈c:=by obtain⟨x,j,q⟩:=QD.mp e;rw[<-eq_of_beq q];exact j
   rw[g]
   constructor
   ·intro q;have:=rS r c;rw[oi]at q;lia
   ·intro q;rw[qx]at q;exact absurd rfl (q.2.2 k hm k (l_))
  ·have g:step_dedup c k=c++[k]:=by unfold step_dedup;rw[ir e]
   have hm:k∉c:=λl=>e (QD.mpr ⟨k,l,B_ k⟩);rw[g];have i:=Bc r (c++[k]) (by rw[qx];exact⟨h,by simp,λa m b n q=>hm (by rw[List.mem_singleton.mp n]at q;exact q▸m)⟩)
   rw[G_]at i;rw[show c++k::r=c++([k]++r)by rfl,<-i,iA,oi,List.length_singleton]
   constructor<;>intro q<;>lia
def MK[DecidableEq b][BEq b][LawfulBEq b](a:List b):(dd a).length=a.length↔a.Nodup:=by have:=Bc a [] Qk;simp at this;unfold dd;exact this
end L2
namespace L2
open PySem
def Fu(t:SetTable)(n:Nat):(t.orStandIn n).led=t.led/\(t.plain=false->(t.orStandIn n).plain=false):=by
 unfold SetTable.orStandIn
 split
 ·exact⟨rfl,id⟩
 ·exact⟨rfl,λ_=>rfl⟩
def Ln(t:SetTable)(a:Array (Int×Value))(h:Int)(x:Value):(layNew t a h x).2.1.led=t.led/\(t.plain=false->(layNew t a h x).2.1.plain=false):=by
 unfold layNew
 split
 ·rename_i sl wd e;exact Fu (t.put sl).1 _
 ·exact⟨rfl,λ_=>rfl⟩
def Fv(t:SetTable)(a:Array (Int×Value))(n:Nat):(relayAll t a n).2.1.led=t.led/\(t.plain=false->(relayAll t a n).2.1.plain=false):=by
 unfold relayAll
 split
 ·rename_i b d e;have c:b.led=t.led/\b.plain=t.plain:=by unfold SetTable.relaid SetTable.laid at e;cases hc:SetTable.layClean (SetTable.sizeAbove n-1) (a.map (·.1))with|none=>rw[hc]at e;cases e|some ow=>rw[hc]at e;cases e;exact⟨rfl,rfl⟩
  dsimp only
  split
  ·exact⟨c.1,λh=>c.2.trans h⟩
  ·exact⟨rfl,λ_=>rfl⟩
 ·exact⟨rfl,λ_=>rfl⟩
def vx(h:l[i]?=some x):(x::l.eraseIdx i).Perm l:=by
 have a:=(d_.mp h).1;have b:=(d_.mp h).2;have e:l=l.take i++x::l.drop (i+1):=by rw[<-b,List.getElem_cons_drop,ta]
 rw[List.eraseIdx_eq_take_drop_succ];refine List.Perm.trans ?_ (RA e.symm);exact List.perm_middle.symm
def xq(next:Nat->Nat)(b:Array d):(pickOrder next b).toList.Perm b.toList:=by
 have go:∀(a k:Nat)(left:List d)(out:Array d),left.length<=a->(pickOrder.go next a k left out).toList.Perm (out.toList++left):=by
  intro a
  induction a with|zero=>intro k left out h;have:left=[]:=QB.mp (by lia);subst this;unfold pickOrder.go;rw[rr]|succ a e=>intro k left out h;unfold pickOrder.go;cases c:left[next k%left.length]?with
 |none=>
    have hn:left=[]:=by cases left with|nil=>rfl|cons y f=>have:=PM.mp c;have:=Nat.mod_lt (next k) (show 0<(y::f).length from rd _);lia
    subst hn;rw[rr]|some x=>have g:=(d_.mp c).1;have i:=(d_.mp c).2;dsimp only;refine(e _ _ _ (by rw[List.length_eraseIdx];split<;>lia)).trans ?_;rw[Rg,G_];refine List.Perm.append_left _ ?_;show(x::left.eraseIdx (next k%left.length)).Perm left;exact vx c
 have:=go b.size 0 b.toList #[] (by simp);unfold pickOrder;simpa using this
end L2
namespace L2
open PySem
def ij:Slot "set_iterator" "__next__" "set_iterator.__next__":=.of (owner:="set_iterator") (n:="__next__") (by rw[QH,P4];kernel_rfl) (by decide+kernel) (by decide+kernel) (by decide+kernel) (by first|exact .inl (by decide+kernel)|exact .inr (by decide+kernel)) (by rw[QS];kernel_rfl)
def t5:Slot "set_iterator" "__iter__" "set_iterator.__iter__":=.of (owner:="set_iterator") (n:="__iter__") (by rw[QH,P4];kernel_rfl) (by decide+kernel) (by decide+kernel) (by decide+kernel) (by first|exact .inl (by decide+kernel)|exact .inr (by decide+kernel)) (by rw[QS];kernel_rfl)
def zY:Manifest.owners.lookup (String.ofList ['r','o','t','a','r','e','t','i','_','t','e','s'].reverse)=some Manifest.sig_set_iterator:=by kernel_rfl
def lu(a:Value):argsOk "set_iterator.__next__" ⟨[a],[]⟩:=by unfold argsOk;rw[signature?_of (id:="set_iterator.__next__") (n:=['_','_','t','x','e','n','_','_']) (o:=['r','o','t','a','r','e','t','i','_','t','e','s']) (by kernel_rfl) zY];kernel_rfl
def o8(a:Value):argsOk "set_iterator.__iter__" ⟨[a],[]⟩:=by unfold argsOk;rw[signature?_of (id:="set_iterator.__iter__") (n:=['_','_','r','e','t','i','_','_']) (o:=['r','o','t','a','r','e','t','i','_','t','e','s']) (by kernel_rfl) zY];kernel_rfl
def ke:entryFor table "set_iterator.__next__"=some Builtin.«set_iterator.__next__»:=entryFor_of_tree (by kernel_rfl)
def nJ:entryFor table "set_iterator.__iter__"=some Builtin.«dict_keyiterator.__iter__»:=entryFor_alias (id':="dict_keyiterator.__iter__") (by kernel_rfl) rfl (by decide+kernel) (by kernel_rfl)
def uz:entryFor table "set.__iter__"=some Builtin.«frozenset.__iter__»:=entryFor_alias (id':="frozenset.__iter__") (by kernel_rfl) rfl (by decide+kernel) (by kernel_rfl)
abbrev iM(first:Value)(i:Nat)(a:Addr)(n b:Nat):Obj:={cls:=.type "set_iterator",dict:=none,data:=.fields #[first,.int i 0,.ref a,.int n 0,.int b 0],slots:=#[]}
abbrev l7(a:RG):Obj:={cls:=.type "tuple",dict:=none,data:=.seq a.toArray}
structure ft(h:Heap)(a:Addr)(es:Array (Int×Value))(ep:Nat)(t:SetTable):Prop where
 ob:∃o,h.get? a=some o/\o.cls=.type "set"/\o.data=.set es ep t
 fits:t.fits es.size=true
def ft.keep(x:ft h a b c t)(k:∀o,h.get? a=some o->h'.get? a=some o):ft h' a b c t:=⟨let⟨o,e,r⟩:=x.ob;⟨o,k o e,r⟩,x.fits⟩
def ft.ty{s:Shared}{a:Addr}{b:Array (Int×Value)}{d:Nat}{t:SetTable}(x:ft s.heap a b d t):s.TypeIs (.ref a) "set":=let⟨o,e,c,_⟩:=x.ob;⟨o,e,c⟩
section
variable{prog:RH}{w:World}{A:Around}{E:RD}{s:Shared}
theorem vy:∀(n:Nat)(a:List f)(s:Shared)(Q:List f->Shared->Prop),a.length<=n->(∀b d,b.Perm a->Q b {s with drawn:=d})->wpAny (model prog w) A (drawOrder n a) Q E s
 |0,a,s,Q,e,h=>by have:a=[]:=QB.mp (by lia);subst this;unfold drawOrder;exact e_ (h [] s.drawn (QX _))|n+1,[],s,Q,e,h=>by unfold drawOrder;exact e_ (h [] s.drawn (QX _))|n+1,x::r,s,Q,e,h=>by
  unfold drawOrder;refine a_ (m:=choose .order (x::r).length) (λΓ p g=>?_);unfold choose;rw[Sem.wp_choose];refine⟨Nat.succ_ne_zero _,?_⟩;have hi:w.draws .order (s.drawn.get .order)%(x::r).length<(x::r).length:=Nat.mod_lt _ (rd _);have c:wpAny (model prog w) A (match(x::r)[w.draws .order (s.drawn.get .order)%(x::r).length]?with|some y=>do return y::(<-drawOrder n ((x::r).eraseIdx (w.draws .order (s.drawn.get .order)%(x::r).length)))|none=>unsupported "internal:drawOrder") Q E {s with drawn:=s.drawn.bump .order}:=by generalize w.draws .order (s.drawn.get .order)%(x::r).length=i at hi⊢;rw[hY hi];refine a_ (vy n _ _ _ (by rw[List.length_eraseIdx,i_ hi];lia) λb d j=>?_);exact e_ (h _ _ ((List.Perm.cons _ j).trans (vx (hY hi))))
  exact c
set_option maxHeartbeats 4000000 in
def G4{a:Addr}{b:Array (Int×Value)}{h:Nat}{t:SetTable}{Q:RD}(d:ft s.heap a b h t)(hn:b.size<=sizeLine)(h1:(!w.params.followText "set-order"&&(!t.plain&&decide (b.size>1)))=false->Q (.ref s.heap.objs.size) {s with heap:=s.heap.push (iM (.int 0 0) 0 a b.size h)})(h2:(!w.params.followText "set-order"&&(!t.plain&&decide (b.size>1)))=true->∀(c:RL)(e:Drawn),c.Perm (List.range b.size)->Q (.ref (s.heap.objs.size+1)) {s with heap:=(s.heap.push (l7 (c.map λ(i:Nat)=>Value.int (i:Int) 0))).push (iM (.ref s.heap.objs.size) 0 a b.size h),drawn:=e}):wpAny (model prog w) A (pyIter (.ref a)) Q E s:=by obtain⟨o,f,hc,hd⟩:=d.ob;have g:=d.fits;refine Q6 d.ty F.slot_set_iter (qq F.slot_set_iter d.ty uz ?_ (F.args_set_iter_1 _));unfold Builtin.«frozenset.__iter__»;refine a_ (m:=Builtin.Frozenset.slot0 "__iter__" _) (a_ (m:=slotArgs "__iter__" 0 _) (e_ (e_ ?_)));refine a_ (m:=Builtin.Frozenset.sizeOf a) (a_ (Qf f hd g (e_ ?_)));refine a_ (m:=setDrawn a) (a_ (N_ f hd g (a_ (a_ (PJ (e_ ?_))))));refine e_ ?_;dsimp only;show wpAny _ _ (if(!w.params.followText "set-order"&&(!t.plain&&decide (b.size>1)))=true then _ else _) _ _ s;cases hc:(!w.params.followText "set-order"&&(!t.plain&&decide (b.size>1)))with|false=>rw[ir lm];refine a_ (e_ ?_);refine a_ (wpAny_setEpoch_of f hd g ?_);refine a_ (rb (e_ ⟨_,rfl,"set_iterator",_,⟨_,g_ _ rfl,rfl⟩,ij.lookup,?_⟩));exact h1 hc|true=>
  rw[i_ rfl];refine a_ (vy b.size (List.range b.size) s _ (by rw[rl];exact f_ _) λc e k=>?_);have l:c.length=b.size:=by rw[k.length_eq,rl]
  refine a_ (rb ?_ (by show(c.map λ(i:Nat)=>rawInt i).toArray.size<=sizeLine;rw[j_,c_,l];exact hn));have j:(s.heap.push (l7 (c.map λ(i:Nat)=>Value.int (i:Int) 0))).get? a=some o:=b_ _ f;refine a_ (wpAny_setEpoch_of (s:={s with heap:=s.heap.push (l7 (c.map λ(i:Nat)=>Value.int (i:Int) 0)),drawn:=e}) j hd g ?_);refine a_ (rb (e_ ⟨_,rfl,"set_iterator",_,⟨_,g_ _ rfl,rfl⟩,ij.lookup,?_⟩));have:=h2 hc c e k;rw[show s.heap.objs.size+1=(s.heap.push (l7 (c.map λ(i:Nat)=>Value.int (i:Int) 0))).objs.size from(n_ ..).symm]at this;exact this
def Er{I a:Addr}{c:Array (Int×Value)}{b i slot nx:Nat}{t:SetTable}{x:Value}{Q:Option Value->Shared->Prop}(d:s.heap.get? I=some (iM (.int slot 0) i a c.size b))(e:ft s.heap a c b t)(hn:∀(A:Around)(f:Option (Value×Nat)->Shared->Prop)(E:RD),f (some (x,nx)) s->wpAny (model prog w) A (setNext a slot i b) f E s)(h:∀h',h'.get? I=some (iM (.int nx 0) (i+1) a c.size b)->Heap.SameBut I s.heap h'->Q (some x) {s with heap:=h'}):wpAny (model prog w) A (pyNext (.ref I)) Q E s:=by obtain⟨o,j,hc,hd⟩:=e.ob;have ty:s.TypeIs (.ref I) "set_iterator":=⟨_,d,rfl⟩;unfold pyNext;refine a_ (P7 (q4 (name:=Str.ofString "__next__") ty ij (qq ij ty ke ?_ (lu _))));unfold Builtin.«set_iterator.__next__»;refine a_ (m:=slotArgs "__next__" 0 _) (e_ ?_);refine a_ (wpAny_fieldsOf d rfl ?_);show wpAny _ _ (setEntries a>>=_) _ _ s;refine a_ (Qf j hd e.fits ?_);rw[ir (by simp)];refine a_ (m:=setNext a slot i b) (hn _ _ _ ?_);refine a_ (pw d (by simp) λh1 k b1=>?_);refine a_ (pw (s:={s with heap:=h1}) k (by simp) λh2 l b2=>?_);refine e_ ⟨_,rfl,e_ (h h2 ?_ (b1.trans b2))⟩;rw[l];rfl
def B6{I T a:Addr}{b:Array (Int×Value)}{c i:Nat}{d:RL}{j:Nat}{t:SetTable}{x:Int×Value}{Q:Option Value->Shared->Prop}(e:s.heap.get? I=some (iM (.ref T) i a b.size c))(f:ft s.heap a b c t)(n:s.heap.get? T=some (l7 (d.map λ(i:Nat)=>Value.int (i:Int) 0)))(p:d[i]?=some j)(q:b[j]?=some x)(r:∀h',h'.get? I=some (iM (.ref T) (i+1) a b.size c)->Heap.SameBut I s.heap h'->Q (some x.2) {s with heap:=h'}):wpAny (model prog w) A (pyNext (.ref I)) Q E s:=by
 obtain⟨o,k,hc,hd⟩:=f.ob;have ty:s.TypeIs (.ref I) "set_iterator":=⟨_,e,rfl⟩;unfold pyNext;refine a_ (P7 (q4 (name:=Str.ofString "__next__") ty ij (qq ij ty ke ?_ (lu _))));unfold Builtin.«set_iterator.__next__»;refine a_ (m:=slotArgs "__next__" 0 _) (e_ ?_);refine a_ (wpAny_fieldsOf e rfl ?_);show wpAny _ _ (setEntries a>>=_) _ _ s;refine a_ (Qf k hd f.fits ?_);rw[ir (by simp)];show wpAny _ _ (seqItems? (.ref T)>>=_) _ _ s;refine a_ (r4 n rfl ?_);have g:(d.map λ(i:Nat)=>Value.int (i:Int) 0).toArray[(i:Int).toNat]?=some (.int (j:Nat) 0):=by rw[QP,ig,pu,p];rfl
 show wpAny _ _ (match(d.map λ(i:Nat)=>Value.int (i:Int) 0).toArray[(i:Int).toNat]?with|some (.int h _)=>_|some _=>_|none=>_) _ _ s;rw[g];refine a_ (m:=setNextDrawn a j c) ?_;unfold setNextDrawn;refine a_ (N_ k hd f.fits ?_);dsimp only;rw[ir (by simp)];rw[q];refine e_ ?_;refine a_ (pw e (by simp) λh1 u b1=>?_);refine e_ ⟨_,rfl,e_ (r h1 ?_ b1)⟩;rw[u];rfl
end
end L2
namespace L2
open PySem
def fU(a:Array Nat):Prop:=∀i j:Nat,i<j->j<a.size->a.getD i 0<a.getD j 0
def Hj{a:Array Nat}{i:Nat}(h:i<a.size)(d:Nat):a.getD i d=a.getD i 0:=by simp[Array.getD,h]
def fU.le(r:fU a)(h:i<=j)(b:j<a.size):a.getD i 0<=a.getD j 0:=by
 rcases Qj i j with q|q
 ·exact t2 (r i j q b)
 ·have:i=j:=by lia
  rw[this];exact f_ _
theorem vI{a:Array Nat}(r:fU a)(j:Nat):∀(fuel lo hi:Nat),hi-lo<=fuel->lo<=hi->hi<=a.size->(∀k,k<lo->a.getD k 0<j)->(∀k,hi<=k->k<a.size->¬a.getD k 0<j)->SetTable.below.go a j fuel lo hi<=a.size/\(∀k,k<SetTable.below.go a j fuel lo hi->a.getD k 0<j)/\(∀k,SetTable.below.go a j fuel lo hi<=k->k<a.size->¬a.getD k 0<j)
 |0,lo,hi,g,h,c,h1,h2=>by
  unfold SetTable.below.go;have:lo=hi:=by lia
  subst this;exact⟨c,h1,h2⟩|fuel+1,lo,hi,g,h,c,h1,h2=>by
  unfold SetTable.below.go
  by_cases b:lo<hi
  ·rw[i_ b];have hm:(lo+hi)/2<a.size:=by lia
   dsimp only;rw[Hj hm j]
   by_cases d:a.getD ((lo+hi)/2) 0<j
   ·rw[i_ d];exact vI r j fuel _ _ (by lia) (by lia) c (λk f=>rV (r.le (by lia) hm) d) h2
   ·rw[ir d];exact vI r j fuel _ _ (by lia) (by lia) (by lia) h1 (λk f e q=>d (rV (r.le f e) q))
  ·rw[ir b];have:lo=hi:=by lia
   subst this;exact⟨c,h1,h2⟩
def r9(r:fU a)(j:Nat):SetTable.below a j<=a.size/\(∀k,k<SetTable.below a j->a.getD k 0<j)/\(∀k,SetTable.below a j<=k->k<a.size->¬a.getD k 0<j):=vI r j a.size 0 a.size (by lia) (m_ _) (f_ _) (λk b=>absurd b (QK _)) (λk h1 h2=>absurd h2 (by lia))
def F0(a:Array Nat):Nat->Nat|0=>0|i+1=>a.getD i 0+1
def vH(r:fU a):∀{i:Nat},i<=a.size->SetTable.below a (F0 a i)=i
 |0,_=>by
  obtain⟨h1,h2,h3⟩:=r9 r 0;rcases Nat.eq_zero_or_pos (SetTable.below a 0)with q|q
  ·exact q
  ·exact absurd (h2 0 q) (QK _)|i+1,hi=>by
  obtain⟨h1,h2,h3⟩:=r9 r (a.getD i 0+1);show SetTable.below a (a.getD i 0+1)=i+1;rcases Nat.lt_trichotomy (SetTable.below a (a.getD i 0+1)) (i+1)with q|q|q
  ·exact absurd (rx _) (h3 i (by lia) (by lia))
  ·exact q
  ·have:=h2 (i+1) q;have:=r i (i+1) (rx _) (by lia);lia
def fU.few{a:Array Nat}(h:a.size<=1):fU a:=λi j h1 h2=>by lia
section
variable{prog:RH}{w:World}{A:Around}{E:RD}{s:Shared}
def pb(b:ft s.heap a g c t)(d:w.params.followText "set-order"=true)(h:Q (((pickOrder (w.params.setOrder a c) g)[i]?).map λe=>(e.2,slot)) s):wpAny (model prog w) A (setNext a slot i c) Q E s:=by obtain⟨o,f,hc,hd⟩:=b.ob;unfold setNext;refine a_ (N_ f hd b.fits ?_);dsimp only;refine a_ (m:=setsByText) (a_ (PJ (e_ ?_)));show wpAny _ _ (if(w.params.followText "set-order")=true then _ else _) _ _ s;rw[i_ d,ir (by simp)];refine a_ (m:=setWalk a) ?_;unfold setWalk;refine a_ (N_ f hd b.fits ?_);dsimp only;refine a_ (m:=setsByText) (a_ (PJ (e_ ?_)));show wpAny _ _ (if(w.params.followText "set-order")=true then _ else _) _ _ s;rw[i_ d];refine a_ (PJ (e_ ?_));exact e_ h
def pf(c:ft s.heap a b d t)(e:w.params.followText "set-order"=false)(f:(!t.plain&&decide (b.size>1))=false)(g:t.led=true)(h:Q (match b[SetTable.below t.place slot]?,t.place[SetTable.below t.place slot]?with|some (_,x),some j=>some (x,j+1)|_,_=>none) s):wpAny (model prog w) A (setNext a slot i d) Q E s:=by obtain⟨o,k,hc,hd⟩:=c.ob;unfold setNext;refine a_ (N_ k hd c.fits ?_);dsimp only;refine a_ (m:=setsByText) (a_ (PJ (e_ ?_)));show wpAny _ _ (if(w.params.followText "set-order")=true then _ else _) _ _ s;rw[ir (by rw[e];exact lm)];show wpAny _ _ (if(!t.plain&&decide (b.size>1))=true then _ else _) _ _ s;rw[ir (by rw[f];exact lm)];refine a_ ?_;show wpAny _ _ (if(!t.led&&!b.isEmpty)=true then _ else _) _ _ s;rw[ir (by rw[g];simp)];exact e_ (e_ h)
def AH(hh:A.handled=none)(f:s.heap.get? I=some (iM first i a q.size g))(l:ft s.heap a q g t)(hn:(∃slot:Nat,first=.int slot 0/\∀(A:Around)(n:Option (Value×Nat)->Shared->Prop)(E:RD),n none s->wpAny (model prog w) A (setNext a slot i g) n E s)\/∃(T:Addr)(d:RL),first=.ref T/\s.heap.get? T=some (l7 (d.map λ(i:Nat)=>Value.int (i:Int) 0))/\d[i]?=none)(r:∀h',(∀b o,b≠I->s.heap.get? b=some o->h'.get? b=some o)->Q none {s with heap:=h'}):wpAny (model prog w) A (pyNext (.ref I)) Q E s:=by
 obtain⟨o,u,hc,hd⟩:=l.ob;have ty:s.TypeIs (.ref I) "set_iterator":=⟨_,f,rfl⟩;have fin:∀(R:Fin->Shared->Prop)(h1:Heap),(∀b o,b≠I->s.heap.get? b=some o->h1.get? b=some o)->wpAny (model prog w) A.in1 (newExc (.type "StopIteration") []>>=λe=>raiseNew e:Sem Fin) R (λe v=>wpAny (model prog w) A (do if<-isInstance e (.type "StopIteration")then pure none else throw e) Q E v) {s with heap:=h1}:=by intro R h1 x;refine a_ ?_;simp only[newExc,newTuple];refine a_ (rb ?_ (by size_fits));refine a_ (m:=firstArgMember _ _) (wpAny_of_eq (a:=Value.none) (by first|rfl|(simp only[firstArgMember];rfl)) ?_);refine rb ?_ (by size_fits);simp only[raiseNew];refine a_ (wpAny_handled ?_);rw[show A.in1.handled=none from hh];refine a_ (e_ (wpAny_throw ?_));refine a_ (Qw (T:="StopIteration") (b:=true) ⟨_,g_ _ rfl,rfl⟩ isSubtype_stop ?_);exact e_ (r _ λb o c e=>b_ _ (b_ _ (x b o c e)))
 unfold pyNext;refine a_ (P7 (q4 (name:=Str.ofString "__next__") ty ij (qq ij ty ke ?_ (lu _))));unfold Builtin.«set_iterator.__next__»;refine a_ (m:=slotArgs "__next__" 0 _) (e_ ?_);refine a_ (wpAny_fieldsOf f rfl ?_);show wpAny _ _ (setEntries a>>=_) _ _ s;refine a_ (Qf u hd l.fits ?_);rw[ir (by simp)];rcases hn with⟨slot,rfl,hn⟩|⟨T,d,rfl,y,z⟩
 ·refine a_ (m:=setNext a slot i g) (hn _ _ _ ?_);refine a_ (pw f (by simp) λh1 p b1=>?_);exact fin _ h1 λb o c e=>(b1.2 b c).trans e
 ·show wpAny _ _ (seqItems? (.ref T)>>=_) _ _ s;refine a_ (r4 y rfl ?_);have h:(d.map λ(i:Nat)=>Value.int (i:Int) 0).toArray[(i:Int).toNat]?=none:=by rw[QP,ig,pu,z];rfl
  show wpAny _ _ (match(d.map λ(i:Nat)=>Value.int (i:Int) 0).toArray[(i:Int).toNat]?with|some (.int j _)=>_|some _=>_|none=>_) _ _ s;rw[h];refine a_ (pw f (by simp) λh1 p b1=>?_);refine a_ (pw (s:={s with heap:=h1}) p (by simp) λh2 B b2=>?_);exact fin _ h2 λb o c e=>(b2.2 b c).trans ((b1.2 b c).trans e)
def Fp(hh:A.handled=none)(M:ft s.heap a c g t)(hn:c.size<=sizeLine)(hl:w.params.followText "set-order"=false->t.led=true)(hr:t.plain=true->fU t.place)(h:∀(I:Addr)(h':Heap)(T:Drawn)(f:List (Int×Value))(fp:RM)(St:Nat->Heap->Prop),f.Perm c.toList->(∀b o,s.heap.get? b=some o->h'.get? b=some o)->s.heap.objs.size<=I->I<h'.objs.size->(∀b∈fp,b=a\/s.heap.objs.size<=b)->Walks prog w A I fp [I] c.size (λi v=>∃x,f[i]?=some x/\v=x.2) St->St 0 h'->Q (.ref I) {s with heap:=h',drawn:=T}):wpAny (model prog w) A (pyIter (.ref a)) Q E s:=by
 have ha:a<s.heap.objs.size:=let⟨o,e,_⟩:=M.ob;iq e;have U:t.place.size=c.size:=by have:=M.fits;unfold SetTable.fits at this;simp only[n7,beq_iff_eq]at this;exact this.1
 refine G4 M hn (λhc=>?_) (λhc u T L=>?_)
 ·--by slots
  have N:∀b o,s.heap.get? b=some o->(s.heap.push (iM (.int 0 0) 0 a c.size g)).get? b=some o:=λb o e=>b_ _ e;have hg:(s.heap.push (iM (.int 0 0) 0 a c.size g)).get? s.heap.objs.size=some (iM (.int 0 0) 0 a c.size g):=g_ _ rfl;have V:s.heap.objs.size<(s.heap.push (iM (.int 0 0) 0 a c.size g)).objs.size:=by rw[n_];exact rx _
  have H:a≠s.heap.objs.size:=k4 ha;have C:∀(first:Nat->Nat)(f:List (Int×Value)),first 0=0->f.Perm c.toList->(∀(i:Nat)(d:Shared)(x:Int×Value),f[i]?=some x->ft d.heap a c g t->∀(A:Around)(D:Option (Value×Nat)->Shared->Prop)(E:RD),D (some (x.2,first (i+1))) d->wpAny (model prog w) A (setNext a (first i) i g) D E d)->(∀(d:Shared),ft d.heap a c g t->∀(A:Around)(D:Option (Value×Nat)->Shared->Prop)(E:RD),D none d->wpAny (model prog w) A (setNext a (first c.size) c.size g) D E d)->Q (.ref s.heap.objs.size) {s with heap:=s.heap.push (iM (.int 0 0) 0 a c.size g)}:=by
   intro first f f0 L hi hd;have W:f.length=c.size:=by rw[L.length_eq,nn]
   refine h s.heap.objs.size _ s.drawn f [s.heap.objs.size,a] (λi h'=>h'.get? s.heap.objs.size=some (iM (.int (first i) 0) i a c.size g)/\ft h' a c g t) L N (f_ _) V ?_ ?_ ?_
   ·intro b m;simp only[pv,oe,w_]at m;rcases m with rfl|rfl
    ·exact .inr (f_ _)
    ·exact .inl rfl
   ·refine{sub:=λb m=>?_,frame:=λi h1 h2 st k=>?_,item:=λi d O P X st q=>?_,done:=λd O P st q=>?_,self:=λi d O P st q=>?_}
    ·rw[List.mem_singleton.mp m];exact l_
    ·exact⟨k _ l_ _ st.1,st.2.keep λo e=>k _ (kw _ l_) _ e⟩
    ·obtain⟨x,p⟩:∃x,f[i]?=some x:=⟨f[i]'(by lia),hY (by lia)⟩;refine Er (nx:=first (i+1)) st.1 st.2 (hi i d x p st.2) λh2 Y b2=>?_;exact q x.2 h2 d.toks ⟨x,p,rfl⟩ ⟨Y,st.2.keep λo e=>(b2.2 _ H).trans e⟩ λb o m e=>(b2.2 b λz=>m (by rw[z];exact List.mem_singleton.mpr rfl)).trans e
    ·refine AH hh st.1 st.2 (.inl ⟨_,rfl,hd d st.2⟩) λh2 Z=>?_;exact q h2 d.toks λb o m e=>Z b o (λz=>m (by rw[z];exact List.mem_singleton.mpr rfl)) e
    ·have ty:d.TypeIs (.ref s.heap.objs.size) "set_iterator":=⟨_,st.1,rfl⟩;refine Q6 ty t5 (qq t5 ty nJ ?_ (o8 _));exact e_ ⟨_,rfl,"set_iterator",_,ty,ij.lookup,q⟩
   ·rw[f0];exact⟨hg,M.keep λo e=>N _ _ e⟩
  cases J:w.params.followText "set-order"with
 |true=>
   have W:(pickOrder (w.params.setOrder a g) c).toList.length=c.size:=by rw[(xq _ _).length_eq,nn]
   refine C (λ_=>0) (pickOrder (w.params.setOrder a g) c).toList rfl (xq _ _) (λi d x p B A D E q=>?_) (λd B A D E q=>?_)
   ·refine pb B J ?_;have p:(pickOrder (w.params.setOrder a g) c)[i]?=some x:=by rw[<-wh];exact p
    rw[p];exact q
   ·refine pb B J ?_;have p:(pickOrder (w.params.setOrder a g) c)[c.size]?=none:=by rw[<-wh];exact PM.mpr (by lia)
    rw[p];exact q|false=>
   have F:(!t.plain&&decide (c.size>1))=false:=by rw[J]at hc;simpa using hc
   have rs:fU t.place:=by cases G:t.plain with|true=>exact hr G|false=>rw[G]at F;refine fU.few ?_;rw[U];simpa using F
   refine C (F0 t.place) c.toList rfl (QX _) (λi d x p B A D E q=>?_) (λd B A D E q=>?_)
   ·have p:c[i]?=some x:=by rw[<-wh];exact p
    have hi:i<c.size:=(Array.getElem?_eq_some_iff.mp p).1;refine pf B J F (hl J) ?_;rw[vH rs (by lia),p];have G:t.place[i]?=some (t.place.getD i 0):=by rw[v3 (by lia)];simp[Array.getD,show i<t.place.size by lia]
    rw[G];exact q
   ·refine pf B J F (hl J) ?_;rw[vH rs (by lia)];rw[show c[c.size]?=none from Array.getElem?_eq_none (f_ _)];exact q
 ·--drawn
  have aa:(s.heap.push (l7 (u.map λ(i:Nat)=>Value.int (i:Int) 0))).get? s.heap.objs.size=some (l7 (u.map λ(i:Nat)=>Value.int (i:Int) 0)):=g_ _ rfl;have hz:(s.heap.push (l7 (u.map λ(i:Nat)=>Value.int (i:Int) 0))).objs.size=s.heap.objs.size+1:=n_ ..;have N:∀b o,s.heap.get? b=some o->((s.heap.push (l7 (u.map λ(i:Nat)=>Value.int (i:Int) 0))).push (iM (.ref s.heap.objs.size) 0 a c.size g)).get? b=some o:=λb o e=>b_ _ (b_ _ e);have hg:((s.heap.push (l7 (u.map λ(i:Nat)=>Value.int (i:Int) 0))).push (iM (.ref s.heap.objs.size) 0 a c.size g)).get? (s.heap.objs.size+1)=some (iM (.ref s.heap.objs.size) 0 a c.size g):=by rw[<-hz];exact g_ _ rfl
  have al:u.length=c.size:=by rw[L.length_eq,rl]
  have R:∀(i j:Nat),u[i]?=some j->j<c.size:=λi j q=>by have:=L.mem_iff.mp (h_ q);exact to.mp this
  refine h (s.heap.objs.size+1) _ T (u.filterMap λj=>c[j]?) [s.heap.objs.size+1,a,s.heap.objs.size] (λi h'=>h'.get? (s.heap.objs.size+1)=some (iM (.ref s.heap.objs.size) i a c.size g)/\ft h' a c g t/\h'.get? s.heap.objs.size=some (l7 (u.map λ(i:Nat)=>Value.int (i:Int) 0))) ?_ N (rk _) ?_ ?_ ?_ ?_
  ·have:=L.filterMap (λj=>c[j]?);rw[filterMap_getElem?_range]at this;exact this
  ·rw[n_,hz];exact rx _
  ·intro b m;simp only[pv,oe,w_]at m;rcases m with rfl|rfl|rfl
   ·exact .inr (rk _)
   ·exact .inl rfl
   ·exact .inr (f_ _)
  ·have H:a≠s.heap.objs.size+1:=k4 (ri ha);have S:∀(i:Nat)(j:Nat)(x:Int×Value),u[i]?=some j->c[j]?=some x->(u.filterMap λj=>c[j]?)[i]?=some x:=by
    have gen:∀(l:RL),(∀j∈l,j<c.size)->∀(i j:Nat)(x:Int×Value),l[i]?=some j->c[j]?=some x->(l.filterMap λj=>c[j]?)[i]?=some x:=by
     intro l
     induction l with|nil=>intro _ i j x hi _;simp at hi|cons y r ih=>intro m i j x hi p;have hy:c[y]?=some (c[y]'(m y l_)):=v3 _;rw[List.filterMap_cons_some hy];cases i with|zero=>simp only[List.getElem?_cons_zero,Qo]at hi⊢;subst hi;rw[hy]at p;exact ji p|succ i=>simp only[List.getElem?_cons_succ]at hi⊢;exact ih (λj K=>m j (kw _ K)) i j x hi p
    intro i j x h1 h2;refine gen u (λj K=>?_) i j x h1 h2;obtain⟨n,hn⟩:=k_.mp K;exact R n j hn
   refine{sub:=λb m=>?_,frame:=λi h1 h2 st k=>?_,item:=λi d O P X st q=>?_,done:=λd O P st q=>?_,self:=λi d O P st q=>?_}
   ·rw[List.mem_singleton.mp m];exact l_
   ·exact⟨k _ l_ _ st.1,st.2.1.keep λo e=>k _ (kw _ l_) _ e,k _ (kw _ (kw _ l_)) _ st.2.2⟩
   ·obtain⟨j,K⟩:∃j,u[i]?=some j:=⟨u[i]'(by lia),hY (by lia)⟩;have ad:=R i j K;have p:c[j]?=some (c[j]'ad):=v3 _;refine B6 st.1 st.2.1 st.2.2 K p λh2 Y b2=>?_;exact q _ h2 d.toks ⟨_,S i j _ K p,rfl⟩ ⟨Y,st.2.1.keep λo e=>(b2.2 _ H).trans e,(b2.2 _ (k4 (rx _))).trans st.2.2⟩ λb o m e=>(b2.2 b λz=>m (by rw[z];exact List.mem_singleton.mpr rfl)).trans e
   ·refine AH hh st.1 st.2.1 (.inr ⟨_,u,rfl,st.2.2,PM.mpr (by lia)⟩) λh2 Z=>?_;exact q h2 d.toks λb o m e=>Z b o (λz=>m (by rw[z];exact List.mem_singleton.mpr rfl)) e
   ·have ty:d.TypeIs (.ref (s.heap.objs.size+1)) "set_iterator":=⟨_,st.1,rfl⟩;refine Q6 ty t5 (qq t5 ty nJ ?_ (o8 _));exact e_ ⟨_,rfl,"set_iterator",_,ty,ij.lookup,q⟩
  ·exact⟨hg,M.keep λo e=>N _ _ e,b_ _ aa⟩
end
end L2
namespace L2
open PySem
section
variable{prog:RH}{w:World}{A:Around}{E:RD}{s:Shared}
def Hb(ty:s.TypeIs (.ref a) "set")(h:Q false s):wpAny (model prog w) A (Builtin.List.listLengthHint (.ref a)) Q E s:=by
 unfold Builtin.List.listLengthHint;refine a_ (QG ty F.slot_set_len.lookup ?_);generalize c:("set.__len__":String)=nm
 wp_delta
 rw[show splitId nm=some ("set","__len__")from by subst c;decide+kernel];subst c;refine a_ (Qw (T:="set") (b:=true) ty (by rw[QS];kernel_rfl) ?_);refine u_ (λz=>absurd z (by decide)) (λ_=>?_);refine u_ (λ_=>?_) (λz=>absurd (by decide+kernel) z);exact a_ (Q5 ty (e_ h))
def Bf(hh:A.handled=none)(X:ft s.heap a l ep t)(hn:l.size<=sizeLine)(hl:w.params.followText "set-order"=false->t.led=true)(p:t.plain=true->fU t.place)(h:∀(h':Heap)(d':Drawn)(tk:Nat)(Z:RG),Z.Perm (l.toList.map (·.2))->(∀b o,s.heap.get? b=some o->h'.get? b=some o)->s.heap.objs.size<=h'.objs.size->R Z {s with heap:=h',drawn:=d',toks:=tk}):wpAny (model prog w) A (collect (.ref a)) R E s:=by
 have M:a<s.heap.objs.size:=let⟨o,e,_⟩:=X.ob;iq e;unfold collect;refine a_ (QQ (vl F.entry_proto_collect ?_));rw[y2 F.plain_proto_collect _];refine a_ (m:=newList []) (rb ?_);refine e_ ⟨PQ F.plain_list_iadd _,vl F.entry_list_iadd ?_⟩;rw[y2 F.plain_list_iadd _];have V:(s.heap.push {cls:=.type "list",data:=.seq ([]:RG).toArray}).get? s.heap.objs.size=some {cls:=.type "list",data:=.seq #[]}:=g_ _ rfl;have g:ft (s.heap.push {cls:=.type "list",data:=.seq ([]:RG).toArray}) a l ep t:=X.keep λo e=>b_ _ e;have j:(s.heap.push {cls:=.type "list",data:=.seq ([]:RG).toArray}).objs.size=s.heap.objs.size+1:=n_ ..;have N:∀b o,s.heap.get? b=some o->(s.heap.push {cls:=.type "list",data:=.seq ([]:RG).toArray}).get? b=some o:=λb o e=>b_ _ e;generalize s.heap.push {cls:=.type "list",data:=.seq ([]:RG).toArray}=h0 at V g j N⊢;show wpAny _ A.in1 (Builtin.List.listExtendWith (.ref s.heap.objs.size) (.ref a) (.ref s.heap.objs.size)) _ _ {s with heap:=h0};unfold Builtin.List.listExtendWith;refine a_ (Q5 (T:="set") (s:={s with heap:=h0}) g.ty ?_);have ne:Builtin.List.listSameRef (.ref s.heap.objs.size) (.ref a)=false:=by simp[Builtin.List.listSameRef,ot M]
 rw[ir (by rw[ne];decide)];refine a_ (Fp (s:={s with heap:=h0}) (A:=A.in1) hh g hn hl p λI h1 n u fp St Y J hI ad y W st=>?_);refine a_ (p_ (Hb (s:={s with heap:=h1,drawn:=n}) (g.keep λo e=>J _ _ e).ty ?_));have O:=J _ _ V;have aa:u.length=l.size:=by rw[Y.length_eq,nn]
 have k:∀(h2:Heap)(c:Nat),St 0 h2->(∀b o,s.heap.get? b=some o->h2.get? b=some o)->h2.get? s.heap.objs.size=some {cls:=.type "list",dict:=none,data:=.seq #[] c,slots:=#[]}->codeAny (model prog w) A (.builtin "list.extend.loop" ⟨[.ref s.heap.objs.size,.ref I,.ref s.heap.objs.size],[]⟩) (λr B=>∃v,r=.ok (.ret v)/\v=.ref s.heap.objs.size/\∃(h':Heap)(tk:Nat)(f:RK)(C:Nat),B={s with heap:=h',drawn:=n,toks:=tk}/\(∀b o,s.heap.get? b=some o->h'.get? b=some o)/\h'.get? s.heap.objs.size=some {cls:=.type "list",dict:=none,data:=.seq f C,slots:=#[]}/\f.toList.Perm (l.toList.map (·.2))) {s with heap:=h2,drawn:=n}:=by
  intro h2 c P k2 K;refine codeAny_extend_loopS W.toS hn s.heap.objs.size (λhm=>?_) _ l.size 0 _ #[] c rfl (m_ _) P K (ItemsOf.nil _) λB d C L g' it=>?_
  ·rcases y _ hm with e|e
   ·exact absurd e (ot M)
   ·have:h0.objs.size<=s.heap.objs.size:=e;rw[j]at this;exact absurd this (Nat.not_succ_le_self _)
  ·obtain⟨h3,Q,d3,t3,o3⟩:=B;obtain rfl:Q=s.gens:=L.gens;obtain rfl:d3=n:=L.drawn;obtain rfl:o3=s.os:=L.os;refine⟨_,rfl,rfl,h3,t3,d,C,rfl,λb o e=>?_,g',?_⟩
   ·refine L.heap b o (λhm=>?_) (k2 b o e);have D:b<s.heap.objs.size:=iq e;rcases pv.mp hm with z|z
    ·exact absurd z (k4 D)
    ·rw[List.mem_singleton.mp z]at D;have:h0.objs.size<=I:=hI;rw[j]at this;exact absurd (E_ D (Nat.lt_of_succ_le this)) (rm _)
   ·have e1:d.toList=u.map (·.2):=by refine zz λi=>?_;rw[ig,wh];cases q:d[i]?with|some v=>obtain⟨x,hx,rfl⟩:=it.2 i v q;rw[hx];rfl|none=>have:d.size<=i:=Array.getElem?_eq_none_iff.mp q;rw[it.1]at this;rw[o0 (by lia)];rfl
    rw[e1];exact Y.map _
 refine u_ (λ_=>?_) (λ_=>e_ ⟨PQ F.plain_extend_loop _,t0 (k h1 0 st (λb o e=>J _ _ (N _ _ e)) O) λr B p=>?_⟩)
 case refine_2=>obtain⟨v,rfl,rfl,h',tk,f,C,rfl,S,G,U⟩:=p;exact a_ (wpAny_load G (e_ (h h' n tk f.toList U S (t2 (iq G)))))
 refine a_ (z4 (a_ ?_));show wpAny _ _ (updateSeq s.heap.objs.size (·.push .none)>>=λ_=>updateSeq s.heap.objs.size (·.pop)) _ _ _;refine a_ (Rt O rfl ?_);have K:=th (Obj.mapSeq (·.push Value.none)) O rfl;refine Rt (hz:=by seq_fits) K rfl ?_;have Q:=th (Obj.mapSeq (·.pop)) K rfl;refine e_ ⟨PQ F.plain_extend_loop _,t0 (k _ _ (W.frame 0 _ _ st λb D o e=>?_) (λb o e=>?_) Q) λr B p=>?_⟩
 ·have H:b≠s.heap.objs.size:=λz=>by
   rcases y _ D with q|q
   ·exact absurd (z.symm.trans q) (ot M)
   ·have:h0.objs.size<=b:=q;rw[j,z]at this;exact absurd this (Nat.not_succ_le_self _)
  exact(u1 _ _ (o_ H)).trans ((u1 _ _ (o_ H)).trans e)
 ·have H:b≠s.heap.objs.size:=k4 (iq e);exact(u1 _ _ (o_ H)).trans ((u1 _ _ (o_ H)).trans (J _ _ (N _ _ e)))
 ·obtain⟨v,rfl,rfl,h',tk,f,C,rfl,S,G,U⟩:=p;exact a_ (wpAny_load G (e_ (h h' n tk f.toList U S (t2 (iq G)))))
end
end L2
namespace L2
open PySem
structure sj(led:Bool)(t:SetTable):Prop where
 led:t.led=led
 up:t.plain=true->fU t.place
def sj.off{led:Bool}{t:SetTable}(x:sj led t):sj led {t with plain:=false}:=⟨x.led,λh=>by cases h⟩
def Gs{t:SetTable}{j:Nat}(h:t.slot j=.empty\/t.slot j=.dummy):t.place[SetTable.below t.place j]?≠some j:=by intro e;unfold SetTable.slot at h;dsimp only at h;rw[i_ (by rw[e];simp)]at h;rcases h with h|h<;>cases h
theorem oO:∀(fuel:Nat)(p:SetTable.Probe)(j:Nat)(d:Option Nat),(∀x,p.dummy=some x->t.slot x=.dummy)->SetTable.probe.go t l h fuel p=some (.empty j d)->t.slot j=.empty/\∀x,d=some x->t.slot x=.dummy|0,p,j,d,c,e=>by unfold SetTable.probe.go at e;cases e|fuel+1,p,j,d,c,e=>by unfold SetTable.probe.go at e;cases a:t.slot p.j with
 |empty=>rw[a]at e;injection e with e;injection e with f g;subst f;subst g;exact⟨a,c⟩|dummy=>
   rw[a]at e;refine oO fuel _ j d (λx b=>?_) e;have:(t.advance {p with dummy:=some p.j}).dummy=some p.j:=by
    unfold SetTable.advance
    split<;>rfl
   rw[this]at b;cases b;exact a|live i=>
   rw[a]at e;dsimp only at e
   split at e
   ·cases e
   ·refine oO fuel _ j d (λx b=>c x ?_) e;have:(t.advance p).dummy=p.dummy:=by
     unfold SetTable.advance
     split<;>rfl
    rw[this]at b;exact b
def EL{t:SetTable}{h:Int}{sl:Nat}{wd:Bool}(e:t.freeSlot h=some (sl,wd)):t.place[SetTable.below t.place sl]?≠some sl:=by unfold SetTable.freeSlot at e;cases a:t.probe (λ_=>h+1) h (t.probeStart h)with|none=>rw[a]at e;cases e|some m=>rw[a]at e;cases m with|candidate _ _ _=>cases e|empty j d=>have:=oO (10*SetTable.turns t.mask) (t.probeStart h) j d (λx b=>by cases b) a;injection e with e;injection e with c f;subst c;refine Gs ?_;cases d with|none=>exact .inl this.1|some x=>exact .inr (this.2 x rfl)
def gd(a:Array Nat)(i:Nat):a.getD i 0=(a.toList[i]?).getD 0:=by rw[wh,Array.getD_eq_getD_getElem?]
def BQ{l:RL}(h:l.Pairwise (·<·)):fU l.toArray:=by intro i j a b;rw[j_]at b;have:=List.pairwise_iff_getElem.mp h i j (by lia) b a;rw[gd,gd];show(l[i]?).getD 0<(l[j]?).getD 0;rw[hY b,hY (show i<l.length by lia)];exact this
def A4(c:p<=a.size):(SetTable.insertAt a p x).getD k 0=if k<p then a.getD k 0 else if k=p then x else if k<a.size+1 then a.getD (k-1) 0 else 0:=by
 have e:(SetTable.insertAt a p x).toList=a.toList.take p++x::a.toList.drop p:=by rw[SetTable.toList_insertAt]
 rw[gd,e];have b:(a.toList.take p).length=p:=by rw[no,nn];lia
 by_cases h1:k<p
 ·rw[i_ h1,q_ (by lia),List.getElem?_take,i_ h1,gd]
 ·rw[ir h1,sg (by lia),b]
  by_cases h2:k=p
  ·rw[i_ h2,h2,Q7];rfl
  ·rw[ir h2];obtain⟨m,rfl⟩:∃m,k=p+(m+1):=⟨k-p-1,by lia⟩;rw[show p+(m+1)-p=m+1 by lia,List.getElem?_cons_succ,Ql]
   by_cases h3:p+(m+1)<a.size+1
   ·rw[i_ h3,gd,show p+(m+1)-1=p+m by lia]
   ·rw[ir h3,o0 (by rw[nn];lia)];rfl
def G6(b:p<=a.size):(SetTable.insertAt a p x).size=a.size+1:=by rw[<-nn,(SetTable.insertAt_perm a p x).length_eq,nn,Array.size_push]
def Eh{t:SetTable}{sl:Nat}(r:fU t.place)(h:t.place[SetTable.below t.place sl]?≠some sl):fU (t.put sl).1.place:=by
 obtain⟨b1,b2,b3⟩:=r9 r sl;show fU (SetTable.insertAt t.place (SetTable.below t.place sl) sl);generalize SetTable.below t.place sl=p at h b1 b2 b3;have b4:∀k,p<=k->k<t.place.size->sl<t.place.getD k 0:=by
  intro k d a;have e:t.place[p]?=some (t.place.getD p 0):=by rw[v3 (by lia)];simp[Array.getD,show p<t.place.size by lia]
  have f:t.place.getD p 0≠sl:=λz=>h (by rw[e,z]);have h1:=b3 p (f_ _) (by lia);have h2:=r.le d a;lia
 intro i j b c;rw[G6 b1]at c;rw[A4 b1,A4 b1]
 by_cases h1:j<p
 ·rw[i_ (by lia),i_ h1];exact r i j b (by lia)
 ·rw[ir h1]
  by_cases h2:j=p
  ·rw[i_ h2,i_ (by lia)];exact b2 i (by lia)
  ·rw[ir h2,i_ c]
   by_cases h3:i<p
   ·rw[i_ h3];have:=b2 i h3;have:=b4 (j-1) (by lia) (by lia);lia
   ·rw[ir h3]
    by_cases h4:i=p
    ·rw[i_ h4];exact b4 (j-1) (by lia) (by lia)
    ·rw[ir h4,i_ (by lia)];exact r (i-1) (j-1) (by lia) (by lia)
def sj.lay{led:Bool}{t:SetTable}(x:sj led t)(c:Array (Int×Value))(h:Int)(v:Value):sj led (layNew t c h v).2.1:=by
 refine⟨(Ln t c h v).1.trans x.led,?_⟩;unfold layNew
 split
 ·rename_i sl wd e;intro a;dsimp only at a⊢;unfold SetTable.orStandIn at a⊢
  split
  ·rename_i b;rw[i_ b]at a;exact Eh (x.up a) (EL e)
  ·rename_i b;rw[ir b]at a;cases a
 ·intro a;cases a
def sj.relay{led:Bool}{t:SetTable}(x:sj led t)(f:Array (Int×Value))(n:Nat):sj led (relayAll t f n).2.1:=by
 refine⟨(Fv t f n).1.trans x.led,?_⟩;unfold relayAll
 split
 ·rename_i m o e;dsimp only
  split
  ·intro _;unfold SetTable.relaid SetTable.laid at e;cases hc:SetTable.layClean (SetTable.sizeAbove n-1) (f.map (·.1))with|none=>rw[hc]at e;cases e|some ow=>
    rw[hc]at e;cases e;show fU ((((List.range (SetTable.sizeAbove n-1+1)).filterMap λj=>(ow.getD j none).map (j,·)).map (·.1)).toArray);have l:(((List.range (SetTable.sizeAbove n-1+1)).filterMap λj=>(ow.getD j none).map (j,·)).map (·.1)).Pairwise (·<·):=by rw[List.map_filterMap];refine List.Pairwise.filterMap _ (R:=(·<·)) (S:=(·<·)) ?_ List.pairwise_lt_range;intro a b g x c y d;cases i:ow.getD a none with|none=>rw[i]at c;cases c|some v=>cases k:ow.getD b none with|none=>rw[k]at d;cases d|some u=>rw[i]at c;rw[k]at d;cases c;cases d;exact g
    exact BQ l
  ·intro h;cases h
 ·intro h;cases h
end L2
namespace L2
open PySem
section
variable{prog:RH}{w:World}{c:Type}[DecidableEq c](knd:PySem.KeyKind prog w c)(kOf:Value->c)
structure kc(led:Bool)(h:Heap)(a:Addr)(ks:List c):Prop where ex:∃o es ep t,h.get? a=some o/\o.ExactSet/\o.data=.set es ep t/\ElemsOf knd es.toList/\(es.toList.map λe=>kOf e.2).Perm ks/\es.size<scanBound/\t.fits es.size=true/\sj led t
variable{knd kOf}
def kc.keep(x:kc knd kOf led h a b)(k:∀o,h.get? a=some o->h'.get? a=some o):kc knd kOf led h' a b:=by obtain⟨o,d,f,t,e,r⟩:=x.ex;exact⟨o,d,f,t,k o e,r⟩
variable{A:Around}{E:RD}{s:Shared}
def GI(d:∀k v,knd.is k v=true->kOf v=k)(b:ElemsOf knd f)(g:(f.map λe=>kOf e.2).Perm h)(k:c):k∈h↔∃e∈f,knd.is k e.2=true:=by
 rw[<-g.mem_iff,mo]
 constructor
 ·rintro⟨e,a,rfl⟩;obtain⟨⟨i,h1,_⟩,_⟩:=b e a;refine⟨e,a,?_⟩;rw[d i e.2 h1];exact h1
 ·rintro⟨e,a,h1⟩;exact⟨e,a,d k e.2 h1⟩
def ur{led:Bool}{h:Heap}{a:Addr}{o:Obj}{l b:Array (Int×Value)}{f:Nat}{t d:SetTable}{ks:List c}(n:h.get? a=some o)(i:o.ExactSet)(hd:o.data=.set l f t)(j:ElemsOf knd b.toList)(p:(b.toList.map λe=>kOf e.2).Perm ks)(r:b.size<scanBound)(u:d.fits b.size=true)(v:sj led d):(h.update a (Obj.putSet b d)).get? a=some {o with data:=.set b (f+1) d}/\kc knd kOf led (h.update a (Obj.putSet b d)) a ks:=by
 have g:(h.update a (Obj.putSet b d)).get? a=some {o with data:=.set b (f+1) d}:=by
  have q:=th (Obj.putSet b d) n (by rw[putSet_of b d hd];rfl)
  rwa[putSet_of b d hd]at q
 exact⟨g,_,b,f+1,d,g,i,rfl,j,p,r,u,v⟩
def HX{led:Bool}{a:Addr}{f:List c}{k:c}{x:Value}{Q:Bool->Shared->Prop}(Z:∀k v,knd.is k v=true->kOf v=k)(i:knd.is k x=true)(y:x.scannable=true)(hS:kc knd kOf led s.heap a f)(G:f.length+1<scanBound)(h:∀h' b,Heap.SameBut a s.heap h'->kc knd kOf led h' a (if k∈f then f else f++[k])->Q b {s with heap:=h'}):wpAny (model prog w) A (setAddHashed a x (knd.hash k)) Q E s:=by
 obtain⟨o,D,ep,t,P,H,hd,m,R,hb,hf,ti⟩:=hS.ex;have hn:D.size=f.length:=by rw[<-R.length_eq,c_,nn]
 have p:=GI Z m R;unfold setAddHashed setAddHashedIn;refine p_ (a_ (N_ P hd hf ?_));dsimp only;rw[byScan_of y hb m,i_ rfl];unfold setAddByScan;refine a_ (a_ (z4 (a_ (wpAny_setScan_of i P hd hf m ?_))));cases hr:List.findIdx? (λe=>knd.is k e.2) D.toList with|some j=>obtain⟨hj,S,_⟩:=List.findIdx?_eq_some_iff_getElem.mp hr;have B:k∈f:=(p k).mpr ⟨_,C1 hj,S⟩;refine e_ (e_ ?_);have q:=h s.heap false (Heap.SameBut.refl a s.heap);rw[i_ B]at q;exact q hS|none=>
  have B:k∉f:=λz=>by obtain⟨e,he,h1⟩:=(p k).mp z;have:=List.findIdx?_eq_none_iff.mp hr e he;rw[h1]at this;cases this
  dsimp only;have q:∀h' b,Heap.SameBut a s.heap h'->kc knd kOf led h' a (f++[k])->Q b {s with heap:=h'}:=λh' b sb x=>h h' b sb (by rw[ir B];exact x);have F:=layNew_perm t D (knd.hash k) x;have I:=layNew_fits t D (knd.hash k) x;have J:=ti.lay D (knd.hash k) x;generalize hL:layNew t D (knd.hash k) x=L at F I J⊢;obtain⟨d,T,wd,gv⟩:=L;dsimp only at F I J⊢;rw[Rg]at F;have u:ElemsOf knd d.toList:=(m.push i y).perm F;have K:(d.toList.map λe=>kOf e.2).Perm (f++[k]):=by refine(F.map _).trans ?_;rw[il,Q1,Z k x i];exact R.append_right _
  have U:d.size=f.length+1:=by rw[<-nn,F.length_eq,iA,nn,hn];rfl
  have n:d.size<scanBound:=by rw[U];exact G
  have say:∀(b:Bool)(V:Shared)(W:Unit->Shared->Prop),W () V->wpAny (model prog w) A (match b with|true=>rule "set.scan.the-table-gave-way"|false=>pure ()) W E V:=λb V W z=>by cases b<;>first|exact e_ z|exact z4 z
  have l:∀g:SetTable,g.fits d.size=true->sj led g->wpAny (model prog w) A (do
 storeSet a d g if(!wd&&g.tooFull)=true then do
      (match(relayAll g d (SetTable.grown d.size)).2.2 with|true=>rule "set.scan.the-table-gave-way"|false=>pure ())storeSet a (relayAll g d (SetTable.grown d.size)).1 (relayAll g d (SetTable.grown d.size)).2.1
      pure (some true)else pure (some true)) (λr s'=>wpAny (model prog w) A (match r with|some C=>pure C|none=>setAddHashedIn a x (knd.hash k) 99999) Q E s') E s:=by
   intro g f2 i2;refine a_ (wpAny_storeSet_of P hd ?_ (fits_of_scanBound n));obtain⟨g1,S1⟩:=ur (knd:=knd) (kOf:=kOf) P H hd u K n f2 i2;have M:=J_ s.heap a (Obj.putSet d g);refine u_ (λ_=>?_) (λ_=>e_ (e_ (q _ _ M S1)));have N:=relayAll_perm g d (SetTable.grown d.size);have r2:=relayAll_fits g d (SetTable.grown d.size);have X:=i2.relay d (SetTable.grown d.size);generalize relayAll g d (SetTable.grown d.size)=Rl at N r2 X⊢;obtain⟨Y,t3,aa⟩:=Rl;dsimp only at N r2 X⊢;have O:Y.size=d.size:=by rw[<-nn,N.length_eq,nn]
   refine a_ (say _ _ _ ?_);refine a_ (wpAny_storeSet_of (s:={s with heap:=s.heap.update a (Obj.putSet d g)}) g1 rfl ?_ (fits_of_scanBound (by rw[O];exact n)));obtain⟨_,S2⟩:=ur (knd:=knd) (kOf:=kOf) (ks:=f++[k]) g1 H rfl (u.perm N) ((N.map _).trans K) (by rw[O];exact n) r2 X;exact e_ (e_ (q _ _ (M.trans (J_ _ a _)) S2))
  refine a_ (say _ _ _ ?_)
  split
  ·refine a_ ?_;rw[hashByValue_scannable 8 y];refine e_ ?_;cases ad:plainKind x with|true=>exact l T I J|false=>exact l {T with plain:=false} (SetTable.fits_plain_off I) J.off
  ·exact a_ (e_ (l T I J))
end
end L2
namespace L2
open PySem PySem.Spec PyProof.Rows
section
variable{prog:RH}{w:World}{A:Around}{E:RD}{s:Shared}
def JD(v:Value)(h:Q₁ (.ref s.heap.objs.size) {s with heap:=s.heap.push (aZ (!w.params.followText "set-order"))}):codeAny (model prog w) A (.call (.builtin "set.__new__") ⟨[.type "set",v],[]⟩) (wants Q₁ E) s:=by refine QJ (show wpAny _ A.in1 (do checkBuiltinCall "set.__new__" ⟨[.type "set",v],[]⟩;again (.builtin "set.__new__" ⟨[.type "set",v],[]⟩)) _ _ s from ?_);refine a_ (wpAny_of_eq (F.newCall_set_1 v) (e_ ⟨PQ F.plain_set_new _,vl F.entry_set_new ?_⟩));rw[y2 F.plain_set_new _];unfold Builtin.«set.__new__»Builtin.Frozenset.newClass;have a:=sub_set_self;obtain⟨b,g,d,tk,os⟩:=s;dsimp only;wp_walk;refine PJ (e_ ?_);dsimp only;simp only[newObj];exact a_ (wpAny_alloc (e_ (e_ h)))
end
section
variable{prog:RH}{w:World}{A:Around}{R:Result->Shared->Prop}{c:Type}[DecidableEq c][BEq c][LawfulBEq c]{j a:Addr}{fp g:RM}{G:Array GenState->Array GenState->Prop}{n:Nat}{P:Nat->Value->Prop}{St:Nat->Shared->Prop}
def ES(l:List c)(x:c)[d:Decidable (x∈l)]:(if x∈l then l else l++[x])=step_dedup l x:=by
 unfold step_dedup
 by_cases h:x∈l
 ·have q:(l.any λy=>y==x)=true:=QD.mpr ⟨x,h,B_ x⟩;rw[i_ h,i_ q]
 ·have q:¬(l.any λy=>y==x)=true:=λz=>h (by obtain⟨y,b,q⟩:=QD.mp z;rw[<-eq_of_beq q];exact b);rw[ir h,ir q]
def EM(l:PySem.KeyKind prog w c)(kOf:Value->c)(led:Bool)(I:∀k v,l.is k v=true->kOf v=k)(q:WalksS prog w A.in1 j fp g G n P St)(C:a∉fp)(h:Nat->c)(r:∀i v,P i v->l.is (h i) v=true/\v.scannable=true)(D:n+1<scanBound):∀(d i:Nat)(s:Shared),n-i=d->i<=n->St i s->kc l kOf led s.heap a (ma h i)->(∀p,Moved (a::g) G s p->kc l kOf led p.heap a (ma h n)->R (.ok (.ret .none)) p)->codeAny (model prog w) A (.builtin "set.update.loop" ⟨[.ref a,.ref j],[]⟩) R s:=by
 have aw:a∉g:=λz=>C (q.sub _ z);have up:∀b∈g,b∈a::g:=λb z=>kw _ z;intro d
 induction d with|zero=>
  intro i s hd hi st f k;obtain rfl:i=n:=by lia
  refine vl P1 ?_;rw[y2 z0 _];refine a_ (m:=pyNext (.ref j)) (q.done s _ _ st λp t=>?_);exact e_ (k p (t.mono up) (f.keep λo e=>t.heap a o aw e))|succ d J=>
  intro i s hd hi st f k;have lt:i<n:=by lia
  refine vl P1 ?_;rw[y2 z0 _];refine a_ (m:=pyNext (.ref j)) (q.item i s _ _ lt st λv p Y u t=>?_);obtain⟨E,K⟩:=r i v Y;have L:kc l kOf led p.heap a (ma h i):=f.keep λo e=>t.heap a o aw e;refine a_ (m:=holding [v] (setAdd a v)) (p_ ?_);unfold setAdd;refine p_ (a_ (l.pyHash (k:=h i) E ?_));have M:(ma h i).length+1<scanBound:=by have:=AL h i;lia
  refine HX (s:={p with toks:=p.toks+1}) I E K L M λh' N H f2=>?_;rw[ES,<-m7]at f2;refine e_ ⟨PQ z0 _,J (i+1) _ (by lia) lt (q.frame _ p _ _ u (rk _) λb z o e=>?_) f2 λx y f4=>?_⟩
  ·exact(H.2 b λB=>C (B▸z)).trans e
  ·refine k x (Moved.trans q.gtrans ((t.mono up).then_heap (rk _) λb o z e=>?_) y) f4;exact(H.2 b λB=>z (B▸l_)).trans e
end
section
variable{prog:RH}{w:World}{A:Around}{E:RD}{s:Shared}{d:Type}[DecidableEq d][BEq d][LawfulBEq d]
set_option maxHeartbeats 3200000 in
def y7(n:PySem.KeyKind prog w d)(kOf:Value->d)(P:∀k v,n.is k v=true->kOf v=k)(hh:A.handled=none)(S:s.heap.IsList l h)(t:∀i v,h[i]?=some v->n.is (key i) v=true/\v.scannable=true)(x:h.size+1<scanBound)(k:∀(h':Heap)(tk:Nat),kc n kOf (!w.params.followText "set-order") h' s.heap.objs.size (ma key h.size)->(∀b o,s.heap.get? b=some o->h'.get? b=some o)->Q (.ref s.heap.objs.size) {s with heap:=h',toks:=tk}):wpAny (model prog w) A (call (.type "set") [.ref l]) Q E s:=by
 obtain⟨c,Z,I⟩:=F.called_set.mro;have made:=F.called_set.made;have sub:=F.called_set.sub;have nt:=F.called_set.notType;have cc:=F.called_set.canCreate;have tc:=Rp (.ref l);refine QE (QJ ?_);show wpAny _ _ (callAny (.type "set") _) _ _ _;refine e_ ⟨Q3 _ (by decide+kernel),vl Re ?_⟩;rw[Q4 (QO "set" [.ref l] []) rfl]
 (repeat(any_goals(first|assumption|wp_step)));skip
 refine t0 (JD (.ref l) (E:=E) (Q₁:=λu s₁=>u=.ref s.heap.objs.size/\s₁={s with heap:=s.heap.push (aZ (!w.params.followText "set-order"))}) ⟨rfl,rfl⟩) λr s₁ C=>?_;cases r with|error e=>exact C|ok O=>cases O with
 |ret u=>
   obtain⟨rfl,rfl⟩:=C;have K:(s.heap.push (aZ (!w.params.followText "set-order"))).get? s.heap.objs.size=some (aZ (!w.params.followText "set-order")):=g_ _ rfl;have ty:Shared.TypeIs {s with heap:=s.heap.push (aZ (!w.params.followText "set-order"))} (.ref s.heap.objs.size) "set":=⟨_,K,rfl⟩;have li:=F.called_set.init.lookup;have bi:=F.called_set.init.bind (.ref s.heap.objs.size)
   (repeat(any_goals(first|assumption|wp_step)));skip
   refine t0 (QT (R:=wants (λr m=>r=.none/\∃h' tk,m={s with heap:=h',toks:=tk}/\kc n kOf (!w.params.followText "set-order") h' s.heap.objs.size (ma key h.size)/\∀b o,s.heap.get? b=some o->h'.get? b=some o) E) F.called_set.init.plain Rr (Rk ty ?_)) λy m j=>?_
   ·obtain⟨⟨cl,T,dt,sl⟩,e,L,M,N⟩:=id S;simp only at L N;subst L;subst N;have U:(s.heap.push (aZ (!w.params.followText "set-order"))).get? l=some {cls:=.type "list",dict:=T,data:=.seq h M,slots:=sl}:=b_ _ e;have s1:=F.sub_list_set;have s2:=F.sub_list_frozenset;have ne:(Value.type "list"==Value.type "dict")=false:=by decide
    have z:(s.heap.push (aZ (!w.params.followText "set-order"))).IsList l h:=⟨_,U,rfl,M,rfl⟩;unfold Builtin.«set.__init__»noKeywords Builtin.Frozenset.updateFrom;generalize D:pyIter=PI;wp_walk;subst D;refine O_ z ?_;refine a_ (QQ ?_);have lt:l<s.heap.objs.size:=iq e;have sz:(s.heap.push (aZ (!w.params.followText "set-order"))).objs.size=s.heap.objs.size+1:=n_ ..;refine EM n kOf (!w.params.followText "set-order") P ((Walks.list (A:=A.in1.in1.in1) (by simp[hh]) _ l (by rw[sz];exact k4 (ri lt)) h).toS) (a:=s.heap.objs.size) (by rw[sz];simp only[pv,oe,w_,not_or];exact⟨k4 (rx _),ot lt⟩) key t x (h.size-0) 0 _ (by lia) (m_ _) ⟨⟨_,g_ _ rfl,rfl,rfl⟩,z.push _⟩ ?f0 ?fR
    case f0=>have g:((s.heap.push (aZ (!w.params.followText "set-order"))).push {cls:=.type "list_iterator",data:=.fields #[.ref l,.int 0 0]}).get? s.heap.objs.size=some (aZ (!w.params.followText "set-order")):=b_ _ K;exact⟨_,#[],0,_,g,⟨rfl,rfl,rfl⟩,rfl,λe V=>by simp at V,QX _,by decide,by rfl,⟨rfl,λ_=>fU.few (m_ _)⟩⟩
    case fR=>rintro⟨h',W,X,G,H⟩B f;obtain rfl:W=s.gens:=B.gens;obtain rfl:X=s.drawn:=B.drawn;obtain rfl:H=s.os:=B.os;show wpAny _ _ _ _ _ _;refine e_ (show wpAny _ _ (ret Value.none) _ _ _ from e_ ⟨rfl,h',G,rfl,f,λb o q=>?_⟩);have b1:b<s.heap.objs.size:=iq q;exact B.heap b o (by rw[sz];simp only[pv,oe,w_,not_or];exact⟨k4 b1,k4 (ri b1)⟩) (b_ _ (b_ _ q))
   ·cases y with|error e=>exact j|ok p=>cases p with|ret r=>
      obtain⟨rfl,h',tk,rfl,f,Y⟩:=j
      (repeat(any_goals(first|assumption|wp_step)));exact k _ _ f Y|_=>exact j.elim
  |_=>exact C.elim
end
end L2
namespace L2
open PySem PySem.Spec PyProof.Rows
section
variable{prog:RH}{w:World}{A:Around}{E:RD}{s:Shared}
def FT(hh:A.handled=none)(l:ft s.heap a f y t)(hn:f.size<=sizeLine)(n:w.params.followText "set-order"=false->t.led=true)(p:t.plain=true->fU t.place)(h:∀(h1:Heap)(d:Drawn)(tk:Nat)(c:RG),c.Perm (f.toList.map (·.2))->(∀b o,s.heap.get? b=some o->h1.get? b=some o)->s.heap.objs.size<=h1.objs.size->(h1.push (seqObj "list" c.toArray 0)).get? h1.objs.size=some (seqObj "list" c.toArray 0)->wpAny (model prog w) A.in1.in1 (Builtin.«list.sort» ⟨[.ref h1.objs.size],[]⟩) (λfin i=>∃v,fin=.done (.ret v)/\Q (.ref h1.objs.size) i) E {s with heap:=h1.push (seqObj "list" c.toArray 0),drawn:=d,toks:=tk}):wpAny (model prog w) A (call (.builtin "sorted") [.ref a]) Q E s:=by
 refine Calls.call_function_entry kind_sorted plain_sorted entry_sorted (args_sorted1 _) ?_;unfold Builtin.«sorted»;refine a_ (m:=checkCount "sorted" 1 1 _) (e_ ?_);refine a_ (Bf (A:=A.in1) hh l hn n p λh1 d tk c j k r=>?_);have u:c.length=f.size:=by rw[j.length_eq,c_,nn]
 refine a_ (wpAny_newList ?_ (by rw[u];exact hn));have g:(h1.push (seqObj "list" c.toArray 0)).get? h1.objs.size=some (seqObj "list" c.toArray 0):=g_ _ rfl;refine a_ (p_ (qq slot_list_sort (s:={s with heap:=h1.push (seqObj "list" c.toArray 0),drawn:=d,toks:=tk}) ⟨_,g,rfl⟩ entry_list_sort (wpAny_mono (h h1 d tk c j k r g) (λfin i x=>?_) λ_ _ e=>e) (args_list_sort _)));obtain⟨v,rfl,q⟩:=x;exact⟨v,rfl,e_ ⟨_,rfl,q⟩⟩
def A7{h1:Heap}{vs:RG}{out:RK}:(∀b o,h1.get? b=some o->(sortedHeap (h1.push (seqObj "list" vs.toArray 0)) h1.objs.size vs out).get? b=some o)/\∃e,(sortedHeap (h1.push (seqObj "list" vs.toArray 0)) h1.objs.size vs out).get? h1.objs.size=some (seqObj "list" out e):=by have g:(h1.push (seqObj "list" vs.toArray 0)).get? h1.objs.size=some (seqObj "list" vs.toArray 0):=g_ _ rfl;refine⟨λb o e=>?_,sortedHeap_at g⟩;have a:b<h1.objs.size:=iq e;rw[sortedHeap_old (k4 a) (by rw[n_];exact ri a)];exact b_ _ e
end
end L2
namespace L2
open PySem PySem.Spec PyProof.Rows
def kOf:Value->bL|.int i _=>.inl i|.str x _=>.inr x|_=>.inl 0
def G1(P:RH)(w:World):∀(k:bL)(v:Value),(aK P w).is k v=true->kOf v=k:=λk v h=>by rcases cB h with⟨i,t,rfl,rfl⟩|⟨x,t,rfl,rfl⟩<;>rfl
abbrev Ef(P:RH)(w:World)(q:Addr)(a:List bL):HO:=.ext λh=>kc (aK P w) kOf (!w.params.followText "set-order") h q a
theorem aL.drawn(I:aL X a b H s)(d:Drawn):aL X a b H {s with drawn:=d}:=⟨I.ok,I.os,I.bare,I.base,I.loc,I.cell,I.free,I.freeC,I.pin,I.hok,I.len⟩
theorem xl:∀{a:RG}{b:RI},StrsAre a b->aY (b.map V.str) a|_,_,.nil=>.nil|_,_,.cons x t h=>.cons ⟨t,rfl⟩ (xl h)
section
variable{X:Cx}
def E4(hc:X.calm=true):cN X (.type "set") (λd H Q=>∃(p:Addr)(a:List bL),d=[.ref p]/\aO X.K H p (a.map kV)/\a.length<4000/\∀q,H q=none->Q (.ref q) (az H q (Ef X.prog X.w q (dd a)))):=by
 intro j s B H d C Q I r h;obtain⟨p,a,rfl,n,k,q⟩:=h;obtain⟨u,rfl,t⟩:=jV r;cases t;obtain⟨b,l,pl,D⟩:=I.list n;have m:=l.length;rw[c_]at m;refine y7 (aK X.prog X.w) kOf (G1 _ _) (key:=λi=>a.getD i (.inl 0)) (I.ok.hd hc) pl.isList (λi v c=>?_) (by rw[j_];unfold scanBound;omega) λh' tk f z=>?_
 ·have c:b[i]?=some v:=by simpa using c
  have hi:i<b.length:=(d_.mp c).1;obtain⟨u,h1,h2⟩:=l.get (i:=i) (x:=kV (a[i]'(by lia))) (by rw[ig,hY (by lia)];rfl);rw[c]at h1;cases h1;have e:a.getD i (.inl 0)=a[i]'(by lia):=by simp[List.getD,hY (show i<a.length by lia)]
  show(aK X.prog X.w).is (a.getD i (.inl 0)) v=true/\_;rw[e,oI];exact y8 h2
 ·rw[show b.toArray.size=a.length by rw[j_];exact m.symm,yI]at f;refine⟨.ref s.heap.objs.size,_,I.laid (h':=h') (t':=tk) (o:=Ef X.prog X.w s.heap.objs.size (dd a)) z (f_ _) ⟨f,?_,λh1 h2 g A=>g.keep A⟩,rfl,q _ (I.hok.fresh (f_ _))⟩;obtain⟨o,_,_,_,e,_⟩:=f.ex;exact⟨o,e⟩
def LS(f:kc (aK P w) kOf led h a g):∃b c t,ft h a b c t/\b.size=g.length/\(b.toList.map λe=>kOf e.2).Perm g/\sj led t/\∀e∈b.toList,nU (kOf e.2) e.2=true:=by obtain⟨o,b,c,t,e,ex,hd,d,pm,_,i,j⟩:=f.ex;refine⟨b,c,t,⟨⟨o,e,ex.1,hd⟩,i⟩,by rw[<-pm.length_eq,c_,nn],pm,j,λx l=>?_⟩;obtain⟨⟨k,h1,_⟩,_⟩:=d x l;rw[G1 P w k x.2 h1];exact h1
variable{P:RH}{w:World}
def CN(K:RC)(b:X.K=K)(hc:X.calm=true)(c:X.prog=P:=by rfl)(d:X.w=w:=by rfl):cN X (.type "set") (λe H Q=>∃(p:Addr)(a:List bL),e=[.ref p]/\aO K H p (a.map kV)/\a.length<4000/\∀q,H q=none->Q (.ref q) (az H q (Ef P w q (dd a)))):=by subst b;subst c;subst d;exact E4 hc
end
end L2
namespace L2
open PySem PySem.Spec PyProof.Rows
section
variable{prog:RH}{w:World}{A:Around}{E:RD}{s:Shared}
def ny(a b:Str):Prop:=¬b.cps.toList<a.cps.toList
def wf(g:StrsAre d v)(h:a.Perm (pairsOf d))(n:SortedToK strKind a (pairsOf d).size):∃c,StrsAre (a.map (·.2)).toList c/\c.Perm v/\c.Pairwise ny:=by
 obtain⟨o,h1,h2,_⟩:=sorted_out_str g h n;refine⟨o,h1,h2,?_⟩;have z:a.toList.Perm (d.zip d):=by rw[<-pairsOf_toList];exact Array.perm_iff_toList_perm.mp h
 have b:∀p,p∈a.toList->p.1=p.2/\p.1∈d:=λp k=>mem_zip_self (z.mem_iff.mp k);have e:o=a.toList.map λp=>strOf p.2:=by rw[<-h1.strs,Array.toList_map,t_];rfl
 rw[e,List.pairwise_iff_getElem];intro i j hi B l;have m:i<a.size:=by simpa using hi
 have f:j<a.size:=by simpa using B
 have q:=n i j (t2 l) (by rw[<-h.size_eq];exact f);obtain⟨x,t,ex⟩:=g.all _ (b a[i] (by simp)).2;obtain⟨y,u,r⟩:=g.all _ (b a[j] (by simp)).2;rw[KK_str m (x:=x) (t:=t) (q:=a[i].2) (Prod.ext ex rfl),KK_str f (x:=y) (t:=u) (q:=a[j].2) (Prod.ext r rfl)]at q
 change decide (y.cps.toList<x.cps.toList)=false at q
 simp only[Rn,Array.getElem_toList];have C:strOf a[i].2=x:=by rw[<-(b a[i] (by simp)).1,ex];rfl
 have D:strOf a[j].2=y:=by rw[<-(b a[j] (by simp)).1,r];rfl
 unfold ny;rw[C,D];exact of_decide_eq_false q
def uv(hh:A.handled=none)(r:ft s.heap a f P t)(u:f.size<64)(y:w.params.followText "set-order"=false->t.led=true)(B:t.plain=true->fU t.place)(C:∀e∈f.toList,∃x t,e.2=Value.str x t)(h:∀(D:Addr)(h':Heap)(F:Drawn)(tk e:Nat)(out:RG)(i:RI),s.heap.objs.size<=D->(∀b o,s.heap.get? b=some o->h'.get? b=some o)->h'.get? D=some (seqObj "list" out.toArray e)->StrsAre out i->i.Perm (f.toList.map λe=>strOf e.2)->i.Pairwise ny->Q (.ref D) {s with heap:=h',drawn:=F,toks:=tk}):wpAny (model prog w) A (call (.builtin "sorted") [.ref a]) Q E s:=by
 refine FT hh r (by rw[j1];lia) y B λh1 G tk c j H I g=>?_;have R:c.length=f.size:=by rw[j.length_eq,c_,nn]
 have k:StrsAre c (c.map strOf):=strsAre_map c λv hm=>by obtain⟨e,J,rfl⟩:=mo.mp (j.mem_iff.mp hm);exact C e J
 refine list_sort_treeK strKind_oneLt g k.keysOf (λp q mz e=>keyKind_strs (by rw[<-e];exact k)) (by lia) λd l m=>⟨_,rfl,?_⟩;obtain⟨n,K,L,M⟩:=wf k l m;obtain⟨N,e,O⟩:=A7 (h1:=h1) (vs:=c) (out:=(arrOf d).map (·.2));refine h h1.objs.size _ G tk e ((arrOf d).map (·.2)).toList n I (λb o z=>N b o (H b o z)) ?_ K (L.trans ?_) M
 ·rw[Array.toArray_toList];exact O
 ·have:=j.map strOf;rw[t_]at this;exact this
end
section
variable{X:Cx}
def Bj(hc:X.calm=true):cN X (.builtin "sorted") (λj H Q=>∃(p:Addr)(a:RI),j=[.ref p]/\H p=some (Ef X.prog X.w p (a.map Sum.inr))/\a.length<64/\∀(q:Addr)(b:RI),H q=none->b.Perm a->b.Pairwise ny->Q (.ref q) (az H q (.lst (b.map V.str)))):=by
 intro l s N H j O Q I r h;obtain⟨p,a,rfl,C,hn,q⟩:=h;obtain⟨u,rfl,E⟩:=jV r;cases E;obtain⟨f,_,_⟩:=I.hok p _ C;obtain⟨m,P,t,F,n,pm,v,G⟩:=LS f;rw[c_]at n;have A:∀e∈m.toList,∃x t,e.2=Value.str x t:=λe d=>by
  have hm:kOf e.2∈a.map Sum.inr:=pm.mem_iff.mp (mo.mpr ⟨e,d,rfl⟩);obtain⟨x,_,c⟩:=mo.mp hm;rcases cB (G e d)with⟨i,t,h1,h2⟩|⟨y,t,h1,h2⟩
  ·rw[h1]at c;cases c
  ·exact⟨y,t,h2⟩
 refine uv (I.ok.hd hc) F (by lia) (λz=>by rw[v.led,z];rfl) v.up A λD h' J tk e out b B K g sa sp L=>?_;have sl:b.length=a.length:=by rw[sp.length_eq,c_,nn,n]
 have ex:(m.toList.map λe=>strOf e.2).Perm a:=by
  have h1:=pm.map (λk:bL=>match k with|.inr x=>x|.inl _=>(⟨#[]⟩:Str));rw[t_,t_]at h1;have M:(a.map ((λk:bL=>match k with|.inr x=>x|.inl _=>(⟨#[]⟩:Str))∘Sum.inr))=a:=by rw[show((λk:bL=>match k with|.inr x=>x|.inl _=>(⟨#[]⟩:Str))∘Sum.inr)=id from rfl,List.map_id]
  rw[M]at h1;refine(RA (PN λe d=>?_)).trans h1;obtain⟨x,t,c⟩:=A e d;rw[c];show strOf (Value.str x t)=(match kOf e.2 with|.inr x=>x|.inl _=>(⟨#[]⟩:Str));rw[c];rfl
 refine⟨.ref D,_,(I.drawn J).laid (h':=h') (t':=tk) (o:=.lst (b.map V.str)) K B ⟨?_,out,e,xl sa,g⟩,rfl,q D b (I.hok.fresh B) (sp.trans ex) L⟩;rw[c_,sl,j1];lia
def zt(hc:X.calm=true)(c:X.prog=P:=by rfl)(d:X.w=w:=by rfl):cN X (.builtin "sorted") (λe H Q=>∃(p:Addr)(a:RI),e=[.ref p]/\H p=some (Ef P w p (a.map Sum.inr))/\a.length<64/\∀(q:Addr)(b:RI),H q=none->b.Perm a->b.Pairwise ny->Q (.ref q) (az H q (.lst (b.map V.str)))):=by subst c;subst d;exact Bj hc
end
section
variable{X:Cx}
end
end L2
namespace L2
open PySem PySem.W PyProof.Rows
def yd(P:RH)(w:World):BB:=λouter H s E e a=>∃(d:Addr)(C:Value)(B:Heap)(t:Addr)(c:Hp),e=.ref d/\a.os=s.os/\AllBare a.gens/\Un (kE outer) [] H c s.heap a.heap/\me P w c a.heap/\Heap.FlyingW B outer d C (.ref t) a.heap/\(∀b o,c b=some o->∃u,B.get? b=some u)/\(∀b o,s.heap.get? b=some o->b∉kE outer->∃u,B.get? b=some u)/\E C none c
def A9(h:env.frame=some L):kE (env::l)=L::kE l:=by unfold kE;rw[z8,h]
def me.flown{P:RH}{w:World}{H:Hp}{h h' B:Heap}(x:me P w H h)(c:∀b o,H b=some o->∃u,B.get? b=some u)(k:B.StaysIn h)(l:B.StaysIn h'):me P w H h':=λa o e=>(x a o e).stay (λb u d q=>by
  obtain⟨f,g⟩:∃f,H b=some f:=by
   rcases d with rfl|d
   ·exact⟨_,e⟩
   ·exact⟨_,d⟩
  obtain⟨v,i⟩:=c b f g;have j:=k b v i;rw[q]at j;cases j;exact l b _ i) (λ_ q=>q) λ_ _ q=>q
section
variable{P:RH}{w:World}{K:RC}{mg:RF}{base:Heap}{N:RI}{a:Str}{scope:Scope}{f:Addr}{cd:Value}{A:Around}{outer:List Env}{c:Shared}{d:Hp}{E:XK}
def iD:lR (yd P w) (rT (yd P w) P w K mg base N a scope f cd A outer c d E) E:=by
 rintro O X H s e G I⟨J,C,B,t,Q,rfl,os,bare,un,hok,r,m,h,q⟩;have v:(envOfC a scope c.heap.objs.size f cd).frame=some c.heap.objs.size:=rfl;have x:kE (envOfC a scope c.heap.objs.size f cd::outer)=c.heap.objs.size::kE outer:=A9 v;have j:Un (kE outer) [] d H c.heap s.heap:=I.base;have un:Un (kE (envOfC a scope c.heap.objs.size f cd::outer)) [] H Q s.heap G.heap:=un;have h:∀b o,s.heap.get? b=some o->b∉kE (envOfC a scope c.heap.objs.size f cd::outer)->∃u,B.get? b=some u:=h;have r:Heap.FlyingW B (envOfC a scope c.heap.objs.size f cd::outer) J C (.ref t) G.heap:=r;have y:∀b o,c.heap.get? b=some o->b∉kE outer->b∉kE (envOfC a scope c.heap.objs.size f cd::outer):=λb o e g hm=>by
  rw[x]at hm;rcases pv.mp hm with rfl|hm
  ·exact absurd (iq e) (rm _)
  ·exact g hm
 have p:∀b o,c.heap.get? b=some o->b∉kE outer->∃u,B.get? b=some u:=λb o e g=>by obtain⟨L,i⟩:=j.there b o e (by simp);exact h b L i (y b o e g)
 show wpAny (model P w) (A.deeper (envOfC a scope c.heap.objs.size f cd)) (leaving (envOfC a scope c.heap.objs.size f cd) (.ref J)) _ _ G;refine wpAny_leaves_onW (outer:=outer) I.ok.frames v r λh' k up=>?_;refine⟨J,C,B,t,Q,rfl,os.trans I.os,bare,?_,hok.flown m r.1 k.1,k,m,p,q⟩;have slot:∀b o,c.heap.get? b=some o->d b=none->b∈kE outer->∃sl,h'.get? b=some {o with slots:=sl}:=λb o e n g=>by
  obtain⟨sl,i⟩:=j.slot b o e n g (by simp);have n1:=j.free b o e n (by simp);obtain⟨T,z⟩:=un.slot b _ i n1 (by rw[x];exact kw _ g) (by simp);obtain⟨_,R,l,hd⟩:=I.ok.funs.mem g;have:R=o:=by have l:c.heap.get? b=some R:=l;rw[e]at l;exact(ji l).symm
  subst this;obtain⟨M,D⟩:=up b _ z hd;exact⟨M,D⟩
 refine⟨λb o e n g _=>?_,λb o e n g _=>slot b o e n g,λb o e n _=>?_,λb o e _=>?_,λb S e=>un.tups b S (j.tups b S e),λb o u e=>un.frzs b o u (j.frzs b o u e),λb U e=>?_⟩
 ·have i:=j.keep b o e n g (by simp);have n1:=j.free b o e n (by simp);have z:=un.keep b o i n1 (y b o e g) (by simp);obtain⟨u,F⟩:=p b o e g;have D:=r.1 b u F;rw[z]at D;cases D;exact k.1 b _ F
 ·obtain⟨L,i⟩:=j.there b o e (by simp);exact un.free b L i (j.free b o e n (by simp)) (by simp)
 ·by_cases g:b∈kE outer
  ·have n:d b=none:=I.ok.frf b g;obtain⟨sl,i⟩:=slot b o e n g;exact⟨_,i⟩
  ·obtain⟨u,F⟩:=p b o e g;exact⟨u,k.1 b u F⟩
 ·obtain⟨V,i⟩:=j.tbls b U e;obtain⟨W,z⟩:=un.tbls b _ i;exact⟨V++W,by rw[z,Array.append_assoc]⟩
end
def c5.held{P:RH}{w:World}{H:Hp}{h:Heap}{a:Addr}{o:HO}(x:c5 P w H h a o):∃u,h.get? a=some u:=by cases o with|lst c=>obtain⟨_,_,_,_,e⟩:=x;exact⟨_,e⟩|tup c=>obtain⟨_,_,_,_,e,_⟩:=x;exact⟨_,e⟩|dK b=>obtain⟨_,_,_,_,o,_,_,e,_⟩:=x;exact⟨_,e⟩|dT b=>obtain⟨_,_,_,_,o,_,_,e,_⟩:=x;exact⟨_,e⟩|set S n=>obtain⟨o,_,_,_,e,_⟩:=x;exact⟨_,e⟩|ins C dx fs=>obtain⟨_,_,_,e,_⟩:=x;exact⟨_,e⟩|own y=>exact x|xd fs=>obtain⟨_,⟨_,_,_,e,_⟩,_⟩:=x;exact⟨_,e⟩|rng lo hi=>obtain⟨_,_,_,e⟩:=x;exact⟨_,e⟩|frz ob u=>exact⟨_,x.1⟩|tbl d=>exact⟨_,(show h.get? a=some _ from x)⟩|met f y=>exact⟨_,(show h.get? a=some _ from x)⟩|ext φ=>exact x.2.1
def Ig(X:Cx)(E:XK):Prop:=∀(a:RE)(c:St)(H:Hp)(s:Shared)(C:Value)(d:RG)(h':Heap)(b:Addr),aL X a c H s->Heap.MadeExcOf s.heap h' b C d->E C none H->X.xe (.ref b) {s with heap:=h'}
section
variable{P:RH}{w:World}{K:RC}{mg:RF}{base:Heap}{N:RI}{a:Str}{scope:Scope}{f:Addr}{cd:Value}{A:Around}{outer:List Env}{c:Shared}{d:Hp}{E:XK}
def Al:Ig (rT (yd P w) P w K mg base N a scope f cd A outer c d E) E:=by
 intro L V H s C W h' M I O q;have m:(envOfC a scope c.heap.objs.size f cd).frame=some c.heap.objs.size:=rfl;have z:kE (envOfC a scope c.heap.objs.size f cd::outer)=c.heap.objs.size::kE outer:=A9 m;have k:Un (kE outer) [] d H c.heap s.heap:=I.base;have p:∀b o,c.heap.get? b=some o->b∉kE outer->b∉kE (envOfC a scope c.heap.objs.size f cd::outer):=λb o e g hm=>by
  rw[z]at hm;rcases pv.mp hm with rfl|hm
  ·exact absurd (iq e) (rm _)
  ·exact g hm
 generalize D:hideAll s.heap (kE (envOfC a scope c.heap.objs.size f cd::outer))=B;have l:∀{b o},s.heap.get? b=some o->b∉kE (envOfC a scope c.heap.objs.size f cd::outer)->B.get? b=some o:=λe g=>by rw[<-D];exact hideAll_get _ e g
 have r:B.StaysIn s.heap:=λb o e=>by rw[<-D]at e;exact of_hideAll _ e
 have fr:s.heap.FunFrames B (envOfC a scope c.heap.objs.size f cd::outer):=by rw[<-D];exact funFrames_hide (base:=base) I.stack λenv R b g=>C_.mpr ⟨env,R,g⟩
 have v:∀b o,c.heap.get? b=some o->b∉kE outer->∃u,B.get? b=some u:=λb o e g=>by obtain⟨S,x⟩:=k.there b o e (by simp);exact⟨S,l x (p b o e g)⟩
 have j:∀b o,H b=some o->∃u,B.get? b=some u:=λb o e=>by obtain⟨u,F⟩:=(I.hok b o e).held;exact⟨u,l F λhm=>by have n:H b=none:=I.stkFree b hm;rw[e]at n;cases n⟩
 show wpAny (model P w) (A.deeper (envOfC a scope c.heap.objs.size f cd)) (leaving (envOfC a scope c.heap.objs.size f cd) (.ref M)) _ _ _;refine wpAny_leaves_madeW (outer:=outer) (h:=s.heap) I.ok.frames m r fr O λG t y tup _ up=>?_;refine⟨M,C,B,t,H,rfl,I.os,I.bare,?_,I.hok.flown j r y.1,y,j,v,q⟩;have slot:∀b o,c.heap.get? b=some o->d b=none->b∈kE outer->∃sl,G.get? b=some {o with slots:=sl}:=λb o e n g=>by
  obtain⟨sl,x⟩:=k.slot b o e n g (by simp);have T:=O.keeps _ _ x;obtain⟨_,Q,i,hd⟩:=I.ok.funs.mem g;have:Q=o:=by have i:c.heap.get? b=some Q:=i;rw[e]at i;exact(ji i).symm
  subst this;obtain⟨J,U⟩:=up b _ T hd;exact⟨J,U⟩
 refine⟨λb o e n g _=>?_,λb o e n g _=>slot b o e n g,λb o e n _=>k.free b o e n (by simp),λb o e _=>?_,k.tups,k.frzs,k.tbls⟩
 ·exact y.1 b o (l (k.keep b o e n g (by simp)) (p b o e g))
 ·by_cases g:b∈kE outer
  ·obtain⟨sl,x⟩:=slot b o e (I.ok.frf b g) g;exact⟨_,x⟩
  ·obtain⟨u,F⟩:=v b o e g;exact⟨u,y.1 b u F⟩
end
def yg:List Value:=[.type "ValueError",.type "Exception",.type "BaseException",.type "object"]
def nI(K:RC)(C:Addr):Prop:=excIn K C yg "ValueError.__new__"=true
theorem nI.at{K:RC}{C:Addr}{h:Heap}(kin:K.In h)(x:nI K C):∃l N nm q bs hd g sub i b dd s t u v w n,h.get? C=some (excClassObj nm q C N bs l hd g sub i b dd s t u v w "ValueError.__new__")/\h.Ns N n/\n "__init__"=none/\OwnTail h yg l:=by
 unfold nI excIn at x
 split at x
 ·rename_i dd c sl look
  split at x
  ·rename_i F y k m o p z r a slots;simp only[n7,beq_iff_eq,Bool.not_eq_true']at x;obtain⟨⟨⟨⟨⟨A,B⟩,e⟩,j⟩,d⟩,f⟩:=x;subst A B;rcases c with⟨nm,bs,D,ns,E,hd,g,sub,i,b,dl⟩;dsimp only at a e d f;subst a;subst e;obtain rfl:sl=#[k,m,o,p,some (.builtin "ValueError.__new__"),r]:=by rcases sl with⟨list⟩;exact tl Array.mk slots
   exact⟨y,ns,nm,E,bs,hd,g,sub,i,b,dd,k,m,o,p,r,_,kin _ _ look,.of_isNs (isNs_of_in kin d),nsMap_none_of_in kin d f,tail_of_in kin j⟩
  ·cases x
 ·cases x
def Lp(C:Addr)(E:XK)(t:TA):TS:=λ_ a H=>t a H λb c=>b.length<=sizeLine/\E (.ref C) none c
def An{X:Cx}{C:Addr}{E:XK}{x:Str}{S a i:Pos}{e:Expr}{d:RJ}{t:TA}(W:nI X.K C)(hg:Gl X x)(hm:X.mg x=some (.ref C))(hc:X.calm=true)(Z:Ig X E)(ha:PA X (e::d) t)(j:(x==("__debug__":Str))=false:=by decide)(u:starEach (e::d) X.env=(false,eval e X.env)::starEach d X.env:=by rfl)(l:(backTo a (starEach d X.env)).any (·.1)=false:=by rfl):PS X (.Raise (some (.Call (.Name x S) (e::d) [] a)) none i) (Lp C E t):=by
 intro c s v H D I h;obtain⟨w,N,nm,q,bs,hd,y,sub,A,f,dd,B,G,J,L,M,O,U,V,k,T⟩:=W.at I.mod.kin;refine wpAny_Raise_call_subT (C:=C) (N:=N) (bm:=w) (mN:=O) (bmB:=yg) (newId:="ValueError.__new__") (nm:=nm) (q:=q) (bs:=bs) (hdct:=hd) (sn:=y) (sub:=sub) (ab:=A) (col:=f) (dd:=dd) (k0:=B) (k1:=G) (k2:=J) (k3:=L) (k5:=M) PySem.F.excBase_ValueError (T.hasType PySem.F.excBase_ValueError.hasBase) (I.ok.hd hc) ?_ k (m9 I hg hm ⟨rfl,?_⟩ j)
 ·rw[u];show(false||(backTo a (starEach d X.env)).any (·.1))=false;rw[l];rfl
 ·have g:=ha a c s v H _ I h;rw[u]at g⊢;refine yl (cy g λQ R⟨vs,H1,I1,r,z,q1⟩=>?_);have p:∀b o,X.base.get? b=some o->R.heap.get? b=some o:=I1.bk;exact⟨rfl,by show Q.length<=_;rw[<-r.length];exact z,p _ _ U,V.keeps p,T.keeps p,λh' ea m=>Z c v H1 R (.ref C) Q h' ea I1 m q1⟩
end L2
namespace L2
open PySem PySem.W PyProof.Rows
def Un.flown{fs:RM}{H i:Hp}{h1 h' h5 B:Heap}(un:Un fs [] H i h1 h')(c:∀b o,h1.get? b=some o->b∉fs->∃u,B.get? b=some u)(k:B.StaysIn h')(j:B.StaysIn h5)(up:h'.UpToSlots h5)(fr:∀b∈fs,H b=none/\∀o,h1.get? b=some o->∀l,o.data≠.fields l):Un fs [] H i h1 h5:=by
 have slot:∀b o,h1.get? b=some o->H b=none->b∈fs->∃sl,h5.get? b=some {o with slots:=sl}:=λb o e n a=>by obtain⟨sl,g⟩:=un.slot b o e n a (by simp);obtain⟨h,d⟩:=up b _ g ((fr b a).2 o e);exact⟨h,d⟩
 refine⟨λb o e n a m=>?_,λb o e n a _=>slot b o e n a,un.free,λb o e _=>?_,un.tups,un.frzs,un.tbls⟩
 ·have p:=un.keep b o e n a m;obtain⟨u,f⟩:=c b o e a;have d:=k b u f;rw[p]at d;cases d;exact j b _ f
 ·by_cases a:b∈fs
  ·obtain⟨sl,g⟩:=slot b o e (fr b a).1 a;exact⟨_,g⟩
  ·obtain⟨u,f⟩:=c b o e a;exact⟨u,j b u f⟩
abbrev Cx.inExc(X:Cx)(a:Addr):Cx:={X with A:=X.A.mark (some (.ref a)),calm:=false,xe:=λ_ _=>False}
section
variable{X:Cx}{a:RE}{c:St}{H:Hp}{s:Shared}{b:Addr}
theorem Cx.Ok.inExc(ok:X.Ok)(b:Addr):(X.inExc b).Ok:=⟨ok.mod,ok.kind,ok.glob,ok.blt,ok.above,ok.inj,ok.has,ok.cab,λz=>absurd z (by simp),ok.frames,ok.stk,ok.exf,ok.bs,ok.bsz,ok.noex,ok.exfs,ok.funs,ok.frf⟩
theorem aL.inExc(I:aL X a c H s)(b:Addr):aL (X.inExc b) a c H s:=⟨I.ok.inExc b,I.os,I.bare,I.base,I.loc,I.cell,I.free,I.freeC,I.pin,I.hok,I.len⟩
def aL.outExc(ok:X.Ok)(I:aL (X.inExc b) a c H s):aL X a c H s:=⟨ok,I.os,I.bare,I.base,I.loc,I.cell,I.free,I.freeC,I.pin,I.hok,I.len⟩
theorem SP.outExc(ok:X.Ok)(h:SP (X.inExc b) a D f g):SP X a D f g:=by cases f with|next=>obtain⟨d,e,I,q⟩:=h;exact⟨d,e,I.outExc ok,q⟩|brk=>obtain⟨d,e,I,q⟩:=h;exact⟨d,e,I.outExc ok,q⟩|cont=>obtain⟨d,e,I,q⟩:=h;exact⟨d,e,I.outExc ok,q⟩|ret u=>obtain⟨v,d,e,I,r,q⟩:=h;exact⟨v,d,e,I.outExc ok,r,q⟩
end
def qf(c:BB)(X:Cx)(E:XK)(a:RE)(d:St):Prop:=∀(H:Hp)(s:Shared)(e:Value)(b:Shared),aL X a d H s->c X.stack H s E e b->X.xe e b
def OC(X:Cx)(a:RE)(b:St)(e:Expr)(t:TE):Prop:=∀(s:Shared)(H:Hp)(Q:VK),aL X a b H s->t b H Q->wpAny (model X.prog X.w) X.A (eval e X.env) (EP X a b Q) X.xe s
def OB(X:Cx)(a:RE)(b:St)(st:Stmt)(t:TS):Prop:=∀(s:Shared)(H:Hp)(D:oW),aL X a b H s->t D b H->wpAny (model X.prog X.w) X.A (exec st X.env) (SP X a D) X.xe s
section
variable{X:Cx}{L:BB}{k:Nat}{f C:Addr}{fd:FuncData}{J:RI}{sp:Sp}{j:List V}{ds:RG}{E:XK}{x m:Str}{p d n:Pos}{e o:Expr}{G:RJ}{M:TE}{t:TA}{b:RE}{B:St}
def LV(F:aP X.prog X.w X.K X.mg X.base L k f fd J sp)(g:eK k X.A)(i:gz X.K fd J ds)(hd:aY j ds)(l:qf L X E b B)(I:aL X b B H s)(r:aY vs us)(h:sp (vs++j) H Q E):wpAny (model X.prog X.w) X.A (call (.ref f) us) (EP X b B Q) X.xe s:=by
 have a:aY (vs++j) (us++ds):=r.append hd;have len:(us++ds).length=J.length:=a.length▸F.len _ _ _ _ h;refine QE (t0 (F.run X.A X.stack s H ⟨us,[]⟩ (us++ds) (vs++j) Q E g I.env0 (i s us I.kIn len) a h) λc q z=>?_);rcases c with ex|v
 ·exact l H s ex q I z
 ·cases v with|ret u=>exact I.after z|next=>cases z|brk=>cases z|cont=>cases z
def JI(P:PE X o M)(c:zK X.K C)(hm:Io X.K C m f)(F:aP X.prog X.w X.K X.mg X.base L k f fd J sp)(R:eK k X.A)(S:gz X.K fd J ds)(hd:aY j ds)(T:qf L X E b B)(Z:PA X (e::G) t)(i:starEach (e::G) X.env=(false,eval e X.env)::starEach G X.env:=by rfl)(y:(backTo d (starEach G X.env)).any (·.1)=false:=by rfl)(ht:eval (.Call (.Attribute o m n) (e::G) [] d) X.env=(do
   let obj<-eval o X.env
   standAt n.atName let(g,first)<-holding [obj] (getMethod obj m pl)callWith d g first (backTo d (starEach (e::G) X.env)) (backToKw d (keywordEach [] X.env))):=by rfl):OC X b B (.Call (.Attribute o m n) (e::G) [] d) (Fx C m sp j E M t):=by intro s H Q I h;refine PySem.W.methodCall_KW (pl:=pl) (cy (P b s B H _ I h) λu U⟨v,Y,I1,rv,a,dx,fs,ev,ea,l,q⟩=>?_) ht;subst ev;cases(show u=Value.ref a from rv);refine oN I1 ea c hm l (PySem.W.callWith_K (first:=[.ref a]) (h₀:=X.base) I.ok.mod.kin hm.kp (cy (Z d b U B Y _ I1 q) λD s2⟨N,H2,O,r,q2⟩=>⟨O.kIn,?_⟩) i y);exact LV (us:=.ref a::D) (vs:=.ref a::N) F R S hd T O (.cons rfl r) q2
def LT(c:X.N.Nodup)(hi:X.N[i]?=some x)(g:MZ X.env.scope x)(l:OC X b B e te)(q:swapsWith e (some (.Name x a)) d.line X.env=pure false:=by rfl)(r:X.fn x=true\/X.env.scope.names.lookup x=some .local:=by first|exact .inl rfl|exact .inr rfl|assumption):OB X b B (.Assign [.Name x a] e d) (zT te (i0 i)):=by intro s H D I h;exact wpAny_Assign_Name (cy (l s H _ I h) λv F⟨y,u,I1,w,z⟩=>uq I1 c hi g w (λK A=>⟨_,u,A,z⟩) r) q
end
theorem PS.nox{X:Cx}{st:Stmt}{t:TS}(h:PS X.nox st t):PS X st t:=λa s b H D I c=>wpAny_mono (h a s b H D (I.wish _) c) (λ_ _ q=>q.unwish) λ_ _ z=>False.elim z
section
variable{P:RH}{w:World}{K:RC}{mg:RF}{base:Heap}
def zJ.okE{x a:Str}{st:Stmt}{f:Addr}{fd:FuncData}{N e:RI}{k:Nat}{sp:Sp}(F:zJ K x a st f fd)(S:ay N e (aj st))(len:∀c H Q E,sp c H Q E->c.length=e.length)(d:∀(b:Value)(A:Around)(outer:List Env)(s:Shared)(H:Hp)(c:List V)(Q:VK)(E:XK),eK k (A.deeper (envOfC a (aj st) s.heap.objs.size f b))->sp c H Q E->∃t,xc (rT (yd P w) P w K mg base N a (aj st) f b A outer s H E) (gr st) t/\t {nx:=λ_ i=>Q .non i,rt:=Q} (jp N c) H):aP P w K mg base (yd P w) (k+1) f fd e sp:=by obtain⟨oc,o,kV,j,pm,p,b,ct,l,rfl,m,g⟩:=F.ex;exact KU m g S len λA outer s H c Q E n h=>d b A outer s H c Q E n h
end
def Km(s:Stmt):List Stmt:=match s with|.ClassDef _ _ _ b _ _ _ _ _ _ _=>b|_=>[]
end L2
namespace L2
open PySem PySem.W PyProof.Rows
abbrev ca:=bL⊕List bL
section
variable(P:RH)(w:World)
def iL:ca->Int|.inl k=>(aK P w).hash k|.inr a=>(tupleKind (aK P w)).hash a
def ky:ca->Nat|.inl _=>1|.inr a=>a.length+1
def nS(h:Heap)(k:ca)(v:Value):Prop:=match k with|.inl k=>(aK P w).is k v=true|.inr b=>∃a,v=.ref a/\(tupleKind (aK P w)).is h b a
abbrev kC:=ca×Value×Value
def tP(x:kC):DictEntry:=⟨iL P w x.1,x.2.1,x.2.2⟩
end
section
variable{P:RH}{w:World}{A:Around}{E:RD}{s:Shared}
def nS.flat(x:nS P w h (.inl k) v):(∃i t,v=.int i t/\k=.inl i)\/∃z t,v=.str z t/\k=.inr z:=by have x:nU k v=true:=x;cases k with
 |inl i=>have x:Value.isInt i v=true:=x;cases v with|int j t=>simp[Value.isInt]at x;exact .inl ⟨_,_,rfl,by rw[x]⟩|_=>cases x
 |inr z=>have x:Value.isStrOf z v=true:=x;cases v with|str j t=>simp[Value.isStrOf]at x;exact .inr ⟨_,_,rfl,by rw[x]⟩|_=>cases x
def GO(c:A.units<cLine)(b:nS P w s.heap k v)(q:Q (iL P w k) {s with toks:=s.toks+ky k}):wpAny (model P w) A (pyHash v) Q E s:=by cases k with|inl k=>exact(aK P w).pyHash b q|inr d=>obtain⟨a,rfl,b⟩:=b;exact(tupleKind (aK P w)).pyHash c b q
def JK(c:A.units<cLine)(f:nS P w s.heap x u)(e:nS P w s.heap y v)(q:Q (decide (x=y)) s):wpAny (model P w) A (eqBool u v) Q E s:=by cases x with
 |inl x=>cases y with|inl y=>exact(aK P w).eqBool f e (by simpa using q)|inr j=>
   obtain⟨a,rfl,o,g,n,d,hc,hd,hi⟩:=e;rw[nk (by intro z;cases z)]at q;rcases f.flat with⟨i,t,rfl,_⟩|⟨z,t,rfl,_⟩
   ·exact SeqAt.EqAt.int_tuple i t ⟨_,d,hc,_,hd⟩ c P w E Q q
   ·exact SeqAt.EqAt.str_tuple z t ⟨_,d,hc,_,hd⟩ c P w E Q q
 |inr j=>obtain⟨a,rfl,h⟩:=f;cases y with|inl y=>
   obtain⟨o,g,n,d,hc,hd,hi⟩:=h;rw[nk (by intro z;cases z)]at q;rcases nS.flat e with⟨i,t,rfl,_⟩|⟨z,t,rfl,_⟩
   ·exact SeqAt.EqAt.tuple_int i t ⟨_,d,hc,_,hd⟩ c P w E Q q
   ·exact SeqAt.EqAt.tuple_str z t ⟨_,d,hc,_,hd⟩ c P w E Q q|inr ls=>obtain⟨b,rfl,k⟩:=e;exact(tupleKind (aK P w)).eqBool c h k (by simpa using q)
def Do(b:nS P w s.heap k v)(q:Q true s):wpAny (model P w) A (eqIsQuiet 8 v) Q E s:=by
 cases k with|inl k=>
  rcases b.flat with⟨i,t,rfl,_⟩|⟨z,t,rfl,_⟩
  ·exact e_ q
  ·exact e_ q|inr c=>obtain⟨a,rfl,b⟩:=b;exact(tupleKind (aK P w)).quiet b q
theorem nS.inj(d:nS P w h x v)(c:nS P w h y v):x=y:=by cases x with
 |inl x=>cases y with|inl y=>rw[(aK P w).inj v x y d c]|inr f=>obtain⟨a,rfl,_⟩:=c;rcases d.flat with⟨i,t,e,_⟩|⟨z,t,e,_⟩<;>cases e
 |inr f=>obtain⟨a,rfl,g⟩:=d;cases y with|inl y=>rcases nS.flat c with⟨i,t,e,_⟩|⟨z,t,e,_⟩<;>cases e|inr ls=>obtain⟨b,e,j⟩:=c;cases e;rw[(tupleKind (aK P w)).inj g j]
def JJ{k:ca}{v:Value}{st:RG}{Q:Bool->Shared->Prop}(d:nS P w s.heap k v)(e:∀u∈st,∃a,nS P w s.heap a u)(q:Q false s):wpAny (model P w) A (tableMayTell v st) Q E s:=by
 unfold tableMayTell
 split
 ·exact e_ q
 ·refine a_ (Do d ?_);simp only[Bool.not_true,PZ,Qy];refine a_ (Ri _ (λleft r b=>b=s/\r=(none,())/\∀u∈left,∃a,nS P w s.heap a u) _ ?_ ?_ _ _ ⟨rfl,rfl,e⟩)
  ·rintro u left r b⟨rfl,rfl,c⟩;obtain⟨a,f⟩:=c u l_;refine a_ (Do f ?_);simp only[Bool.not_true,PZ,Qy];exact e_ ⟨rfl,rfl,λz g=>c z (kw _ g)⟩
  ·rintro r b⟨rfl,rfl,_⟩;exact e_ q
def Og{a:Array DictEntry}{b:List kC}(c:a.toList=b.map (tP P w))(j:Nat):a[j]?=(b[j]?).map (tP P w):=by rw[<-wh,c,ig]
def GM{a:Array DictEntry}{b:List kC}(c:a.toList=b.map (tP P w)):a.size=b.length:=by rw[<-nn,c,c_]
def GN{a:List kC}(hn:(a.map (·.1)).Nodup){i j:Nat}{k:ca}{p q:Value×Value}(hi:a[i]?=some (k,p))(c:a[j]?=some (k,q)):i=j:=by
 have b:(a.map (·.1))[i]?=some k:=by rw[ig,hi];rfl
 have d:(a.map (·.1))[j]?=some k:=by rw[ig,c];rfl
 exact(Px (d_.mp b).1 hn).mp (b.trans d.symm)
def Pf[Decidable c](h1:c->wpAny (model P w) A t Q E s)(h2:¬c->wpAny (model P w) A u Q E s):wpAny (model P w) A (if c then t else u) Q E s:=by
 by_cases h:c
 ·rw[i_ h];exact h1 h
 ·rw[ir h];exact h2 h
def MY(a:List kC)(k:ca)(s:Shared)(b:Option (Option Nat)×Option Nat)(c:Shared):Prop:=c=s/\((∃j p,b=(some (some j),none)/\a[j]?=some (k,p))\/(b.1=none/\((b.2=none/\∀(j:Nat)(p:Value×Value),a[j]?≠some (k,p))\/∃j p,b.2=some j/\a[j]?=some (k,p))))
def Ml{h:List kC}{k:ca}{a:RL}(hn:(h.map (·.1)).Nodup)(u:∀j p,h[j]?=some (k,p)->j∈a)(v:∀j∈a,∃y:kC,h[j]?=some y/\iL P w y.1=iL P w k)(n:a.Nodup)(f:Nat->Option (Option Nat)×Option Nat->Sem (ForInStep (Option (Option Nat)×Option Nat)))(h1:∀(x:Nat)(p:Value×Value)(R:ForInStep (Option (Option Nat)×Option Nat)->Shared->Prop),x∈a->h[x]?=some (k,p)->R (.done (some (some x),none)) s->R (.yield (none,some x)) s->wpAny (model P w) A (f x (none,none)) R E s)(h2:∀(x:Nat)(o:Option Nat)(y:kC)(R:ForInStep (Option (Option Nat)×Option Nat)->Shared->Prop),x∈a->h[x]?=some y->iL P w y.1=iL P w k->y.1≠k->R (.yield (none,o)) s->wpAny (model P w) A (f x (none,o)) R E s):wpAny (model P w) A (forIn a ((none,none):Option (Option Nat)×Option Nat) f) (MY h k s) E s:=by
 refine Ri f (λleft b B=>B=s/\b.1=none/\∃pre,a=pre++left/\((b.2=none/\∀j∈pre,∀p,h[j]?≠some (k,p))\/∃j p,b.2=some j/\j∈pre/\h[j]?=some (k,p))) _ ?_ ?_ _ _ ⟨rfl,rfl,[],rfl,.inl ⟨rfl,by simp⟩⟩
 ·rintro x left⟨b1,b2⟩B⟨rfl,rfl,pre,m,t⟩;have i:x∈a:=by rw[m];simp
  have C:x∉pre:=λz=>by rw[m,qx]at n;exact n.2.2 x z x l_ rfl
  obtain⟨y,l,hh⟩:=v x i;have r:a=(pre++[x])++left:=by rw[m];simp
  by_cases e:y.1=k
  ·obtain⟨D,p⟩:=y;have e:D=k:=e;subst e;rcases t with⟨rfl,g⟩|⟨j,q,rfl,d,c⟩
   ·refine h1 x p _ i l ⟨rfl,.inl ⟨x,p,rfl,l⟩⟩ ⟨rfl,rfl,pre++[x],r,.inr ⟨x,p,rfl,by simp,l⟩⟩
   ·exact absurd (GN hn c l▸d) C
  ·refine h2 x b2 y _ i l hh e ⟨rfl,rfl,pre++[x],r,?_⟩;rcases t with⟨rfl,g⟩|⟨j,q,rfl,d,c⟩
   ·refine .inl ⟨rfl,λj d p z=>?_⟩;rcases Rz.mp d with d|d
    ·exact g j d p z
    ·rw[List.mem_singleton.mp d,l]at z;cases z;exact e rfl
   ·exact .inr ⟨j,q,rfl,tA _ d,c⟩
 ·rintro⟨b1,b2⟩B⟨rfl,rfl,pre,m,t⟩;refine⟨rfl,.inr ⟨rfl,?_⟩⟩;rcases t with⟨rfl,g⟩|⟨j,q,rfl,d,c⟩
  ·refine .inl ⟨rfl,λj p z=>g j ?_ p z⟩;have:=u j p z;rw[m,rr]at this;exact this
  ·exact .inr ⟨j,q,rfl,c⟩
def GP{d:Addr}{o:Obj}{n:Array DictEntry}{ep:Nat}{C:List kC}{k:ca}{g:Value}{Q:Option Nat->Shared->Prop}(hu:A.units<cLine)(f:nS P w s.heap k g)(L:s.heap.get? d=some o)(hd:o.data=.dict n ep)(he:n.toList=C.map (tP P w))(u:∀x∈C,nS P w s.heap x.1 x.2.1)(hn:(C.map (·.1)).Nodup)(D:(∀(j:Nat)(p:Value×Value),C[j]?≠some (k,p))->Q none s)(q:∀(j:Nat)(p:Value×Value),C[j]?=some (k,p)->Q (some j) s):wpAny (model P w) A (dictFind d g (iL P w k)) Q E s:=by
 have sz:=GM he;have B:=Og he;generalize K:placesWithHash n.size (λi=>n[i]?.map (·.hash)) (iL P w k)=c;have al:∀j p,C[j]?=some (k,p)->j∈c:=λj p l=>by
  rw[<-K];unfold placesWithHash;refine vr.mpr ⟨to.mpr ?_,?_⟩
  ·rw[sz];exact(d_.mp l).1
  ·show(n[j]?.map (·.hash)==some (iL P w k))=true;rw[B j,l];simp[tP]
 have S:∀j∈c,∃y:kC,C[j]?=some y/\iL P w y.1=iL P w k:=λj l=>by rw[<-K]at l;unfold placesWithHash at l;obtain⟨h1,h2⟩:=vr.mp l;have h1:=to.mp h1;rw[sz]at h1;refine⟨C[j],hY h1,?_⟩;have h2:(n[j]?.map (·.hash)==some (iL P w k))=true:=h2;rw[B j,hY h1]at h2;simpa[tP]using h2
 have ap:c.Nodup:=by rw[<-K];exact List.filter_sublist.nodup List.nodup_range
 have plain:wpAny (model P w) A (dictWalkPlain d g (iL P w k) n c) Q E s:=by
  unfold dictWalkPlain;refine a_ (Ri _ (λleft b s'=>s'=s/\b=(none,())/\∃pre,c=pre++left/\∀j∈pre,∀p,C[j]?≠some (k,p)) _ ?_ ?_ _ _ ⟨rfl,rfl,[],rfl,by simp⟩)
  ·rintro x left b s'⟨rfl,rfl,pre,hp,T⟩;obtain⟨⟨M,kv,v'⟩,m,hh⟩:=S x (by rw[hp];simp);have G:n[x]?=some ⟨iL P w M,kv,v'⟩:=by rw[B x,m];rfl
   rw[G];dsimp only;rw[i_ (by rw[hh];simp)];refine a_ (E1 L hd (a_ (JK (x:=M) (y:=k) hu (u _ (h_ m)) f (a_ (E1 L hd ?_)))));show wpAny (model P w) A (if(ep !=ep)=true then _ else _) _ E s';rw[ir (by simp)]
   by_cases N:M=k
   ·rw[m3 N];subst N;exact a_ (z4 (e_ (e_ (q x _ m))))
   ·rw[nk N];refine a_ (z4 (e_ ⟨rfl,rfl,pre++[x],by rw[hp];simp,λj l p z=>?_⟩));rcases Rz.mp l with l|l
    ·exact T j l p z
    ·rw[List.mem_singleton.mp l,m]at z;cases z;exact N rfl
  ·rintro b s'⟨rfl,rfl,pre,hp,T⟩;refine e_ (D λj p z=>T j ?_ p z);have:=al j p z;rw[hp,rr]at this;exact this
 have an:∀v∈c.filterMap (λi=>n[i]?.map (·.key)),∃M,nS P w s.heap M v:=λv U=>by obtain⟨i,hi,U⟩:=C_.mp U;obtain⟨y,I,_⟩:=S i hi;rw[B i,I]at U;cases U;exact⟨_,u y (h_ I)⟩
 unfold dictFind
 with_reducible refine p_ ?_
 refine a_ (wpAny_dictEntries L hd ?_);dsimp only;rw[K];generalize a8:c.filterMap (λi=>n[i]?.map (·.key))=stored at an⊢;have H:∀z t,g=.str z t->(n.all λe=>isExactStrKey e.key)=true->wpAny (model P w) A (foundByValue d g n z) Q E s:=by
  rintro z t rfl-;have ek:k=.inl (.inr z):=by
   cases k with|inl k=>
    rcases f.flat with⟨i,t',e,_⟩|⟨z',t',e,e2⟩
    ·cases e
    ·cases e;rw[e2]|inr ks=>obtain⟨a,e,_⟩:=f;cases e
  have as:∀(j:Nat)(y:kC),C[j]?=some y->y.2.1.isStr z=true->y.1=k:=λj y I J=>by have h3:=u y (h_ I);refine nS.inj h3 ?_;rw[ek];cases U:y.2.1 with
 |str z' t'=>
    rw[U]at J;have:z'=z:=by simpa[Value.isStr]using J
    rw[this];exact sL P w z t'|_=>rw[U]at J;cases J
  have a2:∀(j:Nat)(p:Value×Value),C[j]?=some (k,p)->p.1.isStr z=true:=λj p l=>by
   have h3:nS P w s.heap k p.1:=u _ (h_ l);rw[ek]at h3;rcases h3.flat with⟨i,t',_,e⟩|⟨z',t',e,e2⟩
   ·cases e
   ·cases e2;rw[e];simp[Value.isStr]
  unfold foundByValue;cases hf:n.findIdx? (λe=>e.key.isStr z)with
 |none=>
   refine e_ (D λj p l=>?_);have F:=Array.findIdx?_eq_none_iff.mp hf;have h4:n[j]?=some (tP P w (k,p)):=by rw[B j,l];rfl
   have h5:=F _ (Array.mem_of_getElem? h4);have h6:p.1.isStr z=false:=by simpa[tP]using h5
   rw[a2 j p l]at h6;cases h6|some i=>
   obtain⟨V,hi,_⟩:=Array.findIdx?_eq_some_iff_getElem.mp hf;have m:C[i]?=some (C[i]'(by rw[<-sz];exact V)):=hY _;generalize C[i]'(by rw[<-sz];exact V)=y at m;have G:n[i]?=some (tP P w y):=by rw[B i,m];rfl
   have a3:y.2.1.isStr z=true:=by rw[v3 V]at G;rw[ji G]at hi;exact hi
   have I:=as i y m a3;obtain⟨M,p⟩:=y;have I:M=k:=I;subst I;dsimp only;rw[G];dsimp only;refine a_ (E1 L hd (a_ (JK (x:=M) (y:=M) hu (u _ (h_ m)) f (a_ (E1 L hd ?_)))));rw[ir (by simp),i_ (m3 rfl)];exact a_ (z4 (e_ (q i p m)))
 have O:∀a,g=.ref a->¬(n.any λe=>e.key==g&&e.hash !=iL P w k)=true:=by intro a ea;rw[<-Array.any_toList,he,QD];rintro⟨e,a5,hc⟩;obtain⟨y,I,rfl⟩:=mo.mp a5;simp only[tP,n7,beq_iff_eq,bne_iff_ne,ne_eq]at hc;have h3:=u y I;rw[hc.1]at h3;exact hc.2 (by rw[h3.inj f])
 by_cases F:((g::stored).all carriedByValue)=true
 ·rw[i_ F]
  split
  ·rename_i z t
   split
   ·rename_i J;exact H z t rfl J
   ·exact plain
  ·exact plain
 ·rw[ir F];have W:(∃i t,g=.int i t)\/(∃z t,g=.str z t)\/∃a,g=.ref a:=by
   cases k with|inl k=>
    rcases f.flat with⟨i,t,e,_⟩|⟨z,t,e,_⟩
    ·exact .inl ⟨i,t,e⟩
    ·exact .inr (.inl ⟨z,t,e⟩)|inr ks=>obtain⟨a,e,_⟩:=f;exact .inr (.inr ⟨a,e⟩)
  have X:∀(x:Nat)(p:Value×Value),C[x]?=some (k,p)->∃e,n[x]?=some e/\e.hash=iL P w k/\nS P w s.heap k e.key:=λx p m=>⟨_,by rw[B x,m];rfl,rfl,u _ (h_ m)⟩;have Y:∀(x:Nat)(y:kC),C[x]?=some y->∃e,n[x]?=some e/\e.hash=iL P w y.1/\nS P w s.heap y.1 e.key:=λx y m=>⟨_,by rw[B x,m];rfl,rfl,u _ (h_ m)⟩;rcases W with⟨i,t,e⟩|⟨z,t,e⟩|⟨a,e⟩
  case' inl=>subst e;dsimp only
  case' inr.inl=>
   subst e;dsimp only
   by_cases J:(n.all λe=>isExactStrKey e.key)=true
   case pos=>rw[i_ J];exact H z t rfl J
   case' neg=>rw[ir J]
  case' inr.inr=>subst e;dsimp only;rw[ir (O a rfl)]
  all_goals refine Pf (λ_=>a_ (e_ ?_)) (λ_=>a_ (JJ f an ?_))
  all_goals rw[ir (by simp)];refine a_ (wpAny_mono (Ml (P:=P) (w:=w) hn al S ap _ ?_ ?_) (λb s' z=>?_) λ_ _ z=>z)
  all_goals first
   |(obtain⟨b1,b2⟩:=b
     obtain⟨rfl,h⟩:=z;rcases h with⟨j,p,e,l⟩|⟨e,h⟩
     ·cases e;exact e_ (q j p l)
     ·have e:b1=none:=e;subst e;rcases h with⟨e,h⟩|⟨j,p,e,l⟩<;>(have e:b2=_:=e;subst e)
      ·exact e_ (D h)
      ·exact e_ (q j p l))
   |(intro x p R a6 m r1 r2
     obtain⟨e,Z,aa,ad⟩:=X x p m;rw[Z];dsimp only;rw[i_ (by rw[aa];simp)];refine a_ (E1 L hd (a_ (JK (x:=k) (y:=k) hu ad f (a_ (E1 L hd ?_)))));rw[ir (by simp),i_ (m3 rfl),ir (by simp)];refine a_ (z4 ?_)
     split
     ·exact e_ r1
     ·exact e_ r2)
   |(intro x ba y R a6 m hh a7 r
     obtain⟨e,Z,aa,ad⟩:=Y x y m;rw[Z];dsimp only;rw[i_ (by rw[aa,hh];simp)];refine a_ (E1 L hd (a_ (JK (x:=y.1) (y:=k) hu ad f (a_ (E1 L hd ?_)))));rw[ir (by simp),ir (by simp[a7])];refine a_ (z4 ?_);rw[ir (by simp)];exact e_ r)
end
end L2
namespace L2
open PySem PySem.W PyProof.Rows
section
variable{P:RH}{w:World}{A:Around}{E:RD}{s:Shared}
def Dq{c:Type}{a:List (ca×c)}(hn:(a.map (·.1)).Nodup){j:Nat}{k:ca}{p:c}(d:a[j]?=some (k,p)):a.find? (λx=>decide (x.1=k))=some (k,p):=by
 rw[List.find?_eq_some_iff_append];obtain⟨g,e⟩:=d_.mp d;refine⟨m3 rfl,a.take j,a.drop (j+1),?_,λy h=>?_⟩
 ·rw[<-e,List.getElem_cons_drop,ta]
 ·obtain⟨i,hi⟩:=k_.mp h;have b:i<j:=by have:=(d_.mp hi).1;rw[no]at this;omega
  rw[Qs b]at hi;have:y.1≠k:=λz=>by
   have f:(a.map (·.1))[i]?=some k:=by rw[ig,hi,<-z];rfl
   have l:(a.map (·.1))[j]?=some k:=by rw[ig,d];rfl
   have:=(Px (d_.mp f).1 hn).mp (f.trans l.symm);lia
  simp[this]
def xz{b:Type}{c:List (ca×b)}{k:ca}(h:∀(j:Nat)(p:b),c[j]?≠some (k,p)):c.find? (λx=>decide (x.1=k))=none:=by rw[List.find?_eq_none];intro x d a;obtain⟨j,e⟩:=k_.mp d;have a:x.1=k:=lh a;exact h j x.2 (by rw[e,<-a])
structure jJ(P:RH)(w:World)(h:Heap)(d:Addr)(ys:List kC):Prop where ok:∃o es ep,h.get? d=some o/\o.ExactDict/\o.data=.dict es ep/\es.toList=ys.map (tP P w)nd:(ys.map (·.1)).Nodup
def fk{b a:Type}(c:List (ca×b×a))(k:ca):Option a:=(c.find? λy=>decide (y.1=k)).map (·.2.2)
def fW{a b:Type}(c:List (ca×a×b))(k:ca)(d:a)(v:b):List (ca×a×b):=if(fk c k).isSome then c.map λy=>if y.1=k then(y.1,y.2.1,v)else y else c++[(k,d,v)]
def Of{d:Addr}{c:List kC}{k:ca}{b:Value}{Q:Option Value->Shared->Prop}(f:A.units<cLine)(a:nS P w s.heap k b)(hm:jJ P w s.heap d c)(e:∀x∈c,nS P w s.heap x.1 x.2.1)(q:Q (fk c k) {s with toks:=s.toks+ky k}):wpAny (model P w) A (dictGet d b) Q E s:=by
 obtain⟨o,m,n,g,hc,hd,h⟩:=hm.ok;unfold dictGet
 with_reducible refine p_ ?_
 refine a_ (GO f a (a_ (GP (s:={s with toks:=s.toks+ky k}) f a g hd h e hm.nd (λl=>?_) λj p i=>?_)))
 ·unfold fk at q;rw[xz l]at q;exact e_ q
 ·unfold fk at q;rw[Dq hm.nd i]at q;refine a_ (wpAny_dictEntries (s:={s with toks:=s.toks+ky k}) g hd ?_);rw[Og h j,i];exact e_ q
def Mm(a:List (ca×c×b))(k:ca)(v:b):(a.map λy=>if y.1=k then(y.1,y.2.1,v)else y).map (·.1)=a.map (·.1):=by
 rw[t_];refine PN λy _=>?_;show(if y.1=k then(y.1,y.2.1,v)else y).1=y.1
 split<;>rfl
def Oe{d:Addr}{f:List kC}{k:ca}{c v:Value}{Q:Unit->Shared->Prop}(u:A.units<cLine)(g:nS P w s.heap k c)(hm:jJ P w s.heap d f)(n:∀x∈f,nS P w s.heap x.1 x.2.1)(D:f.length<sizeLine)(q:∀h',jJ P w h' d (fW f k c v)->Heap.SameBut d s.heap h'->Q () {s with heap:=h',toks:=s.toks+ky k}):wpAny (model P w) A (dictSet d c v) Q E s:=by
 obtain⟨o,I,B,h,hc,hd,m⟩:=hm.ok;unfold dictSet
 with_reducible refine p_ ?_
 refine a_ (GO u g ?_);unfold dictSetHashed
 with_reducible refine p_ ?_
 refine a_ (GP (s:={s with toks:=s.toks+ky k}) u g h hd m n hm.nd (λC=>?_) λj p l=>?_)
 ·have r:fW f k c v=f++[(k,c,v)]:=by unfold fW fk;rw[xz C];rfl
  have F:k∉f.map (·.1):=λz=>by obtain⟨y,G,e⟩:=mo.mp z;obtain⟨j,l⟩:=k_.mp G;exact C j y.2 (by rw[l,<-e])
  rw[r]at q;refine a_ (z4 (wpAny_updateDictKeys (hz:=by have:=GM m;omega) (s:={s with toks:=s.toks+ky k}) h hd (q _ ⟨⟨_,_,B+1,th _ h (Obj.isFreed_of_dict (Obj.data_mapDictKeys hd _)),hc.mapDictKeys _,Obj.data_mapDictKeys hd _,?_⟩,?_⟩ (J_ ..))))
  ·rw[Rg,m,il];rfl
  ·rw[il,qx];refine⟨hm.nd,by simp,λa H b t e=>F ?_⟩;have t:b=k:=List.mem_singleton.mp t;rw[<-t,<-e];exact H
 ·have r:fW f k c v=f.map λy=>if y.1=k then(y.1,y.2.1,v)else y:=by unfold fW fk;rw[Dq hm.nd l];rfl
  rw[r]at q;refine a_ (z4 (a_ (wpAny_updateDict (s:={s with toks:=s.toks+ky k}) h hd (wpAny_point (q _ ⟨⟨_,_,B,th _ h (Obj.isFreed_of_dict (Obj.data_mapDict hd _)),hc.mapDict _,Obj.data_mapDict hd _,?_⟩,by rw[Mm];exact hm.nd⟩ (J_ ..))))));rw[Array.toList_modify,m];refine zz λi=>?_;rw[List.getElem?_modify,ig,ig,ig];cases hi:f[i]?with|none=>by_cases e:j=i<;>simp[e]|some y=>
   by_cases e:j=i
   ·subst e;rw[l]at hi;cases hi;simp[tP]
   ·have:y.1≠k:=λz=>e (GN hm.nd l (q:=y.2) (by rw[hi,<-z]));simp[e,this]
def jJ.type(hm:jJ P w s.heap d b):s.TypeIs (.ref d) "dict":=let⟨o,_,_,a,hc,_⟩:=hm.ok;⟨o,a,hc.1⟩
def jJ.bare(hm:jJ P w s.heap d c):∀b,Value.ref d=.ref b->∃ob,s.heap.get? b=some ob/\ob.dict=none:=λb e=>by cases e;obtain⟨o,_,_,a,hc,_⟩:=hm.ok;exact⟨o,a,hc.2.1⟩
def Cb(d:Addr)(a dflt:Value)(hd:(d==sysModules)=false):MeetsIn P w (Builtin.«dict.get» ⟨[.ref d,a,dflt],[]⟩) (λA R s=>A.in1.units<cLine/\∃k b,nS P w s.heap k a/\jJ P w s.heap d b/\(∀x∈b,nS P w s.heap x.1 x.2.1)/\R (.ok (.ret ((fk b k).getD dflt))) {s with toks:=s.toks+ky k}):=.of_wp λA R s⟨e,k,b,f,hm,hi,h⟩=>by show wpAny (model P w) _ (dictGet d a>>=_) _ _ s;refine a_ (Of e f hm hi ?_);cases c:fk b k with|some v=>rw[c]at h;exact e_ ⟨v,rfl,h⟩|none=>rw[c]at h;exact a_ (wpAny_missed_other hd (e_ ⟨dflt,rfl,h⟩))
def Eu(g:A.in1.units<cLine)(b:nS P w s.heap k a)(hm:jJ P w s.heap d c)(e:∀x∈c,nS P w s.heap x.1 x.2.1)(h:c.length<sizeLine)(q:∀h',jJ P w h' d (fW c k a v)->Heap.SameBut d s.heap h'->Q () {s with heap:=h',toks:=s.toks+ky k}):wpAny (model P w) A (setItem (.ref d) a v) Q E s:=by
 unfold setItem
 with_reducible refine p_ ?_
 refine a_ (wpAny_sequenceKey hm.type (by decide) (a_ (q4 (name:=Str.ofString "__setitem__") hm.type slot_dict_setitem (qq slot_dict_setitem hm.type entry_dict_setitem ?_ (args_dict_setitem _ _ _)))));show wpAny (model P w) _ (Builtin.Dict.notOrdered "__setitem__" ⟨[.ref d,a,v],[]⟩>>=_) _ _ s;refine a_ (wpAny_notOrdered_dict hm.type ?_);show wpAny (model P w) A.in1 (dictSet d a v>>=_) _ _ s;exact a_ (Oe g b hm e h λh' h1 h2=>e_ ⟨.none,rfl,e_ (q h' h1 h2)⟩)
end
abbrev iX:=ca×V×V
def sr(a:List iX)(b:List kC):Prop:=Paired (λ(p:iX)(q:kC)=>p.1=q.1/\aV p.2.1 q.2.1/\aV p.2.2 q.2.2) a b
abbrev dM(P:RH)(w:World)(d:Addr)(b:List iX):HO:=.ext λh=>(d==sysModules)=false/\∃a,sr b a/\jJ P w h d a
def c6(K:RC)(H:Hp)(k:ca)(v:V):Prop:=match k with|.inl k=>v=kV k|.inr b=>∃a,v=.ref a/\aT K H a (b.map kV)
def eA(K:RC)(H:Hp)(a:List iX):Prop:=∀x∈a,c6 K H x.1 x.2.1
def jJ.keep(m:jJ P w h1 d a)(k:∀o,h1.get? d=some o->h2.get? d=some o):jJ P w h2 d a:=let⟨o,b,c,e,r⟩:=m.ok;⟨⟨o,b,c,k o e,r⟩,m.nd⟩
def K0(hd:(d==sysModules)=false)(r:sr a ys)(m:jJ P w h d ys):c5 P w H h d (dM P w d a):=⟨⟨hd,ys,r,m⟩,let⟨o,_,_,e,_⟩:=m.ok;⟨o,e⟩,λ_ _⟨h1,ys,h2,h3⟩k=>⟨h1,ys,h2,h3.keep k⟩⟩
def c6.is(I:aL X b j H s)(h:c6 X.K H k v)(r:aV v u):nS X.prog X.w s.heap k u:=by cases k with|inl k=>have h:v=kV k:=h;subst h;exact pT r|inr l=>obtain⟨a,rfl,f⟩:=h;cases r;obtain⟨g,i,⟨o,e,c,n,d⟩,_⟩:=I.tuple f;exact⟨a,rfl,o,_,n,e,c,d,rO i⟩
theorem sr.keys(I:aL X c g H s):∀{d:List iX}{e:List kC},sr d e->eA X.K H d->∀y∈e,nS X.prog X.w s.heap y.1 y.2.1
 |_,_,.nil,_,y,b=>nomatch b|_,_,.cons (a:=p) r t,k,y,b=>by
  rcases pv.mp b with rfl|b
  ·rw[<-r.1];exact(k p l_).is I r.2.1
  ·exact sr.keys I t (λx f=>k x (kw _ f)) y b
theorem sr.val:∀{a:List iX}{b:List kC},sr a b->∀k,lc (fk a k) (fk b k)
 |_,_,.nil,_=>True.intro|p::a,q::b,.cons r t,k=>by
  unfold fk;rw[so,so,<-r.1]
  by_cases e:p.1=k
  ·rw[m3 e];exact r.2.2
  ·rw[nk e];exact sr.val t k
def sr.put(h:sr c d)(g:aV kv i)(f:aV v u):sr (fW c k kv v) (fW d k i u):=by
 have a:(fk c k).isSome=(fk d k).isSome:=(h.val k).isSome_eq;unfold fW;rw[a]
 split
 ·rename_i hc;clear a hc
  induction h with|nil=>exact .nil|@cons p q j l r t b=>
   refine .cons ?_ b;dsimp only;rw[<-r.1]
   by_cases e:p.1=k
   ·rw[i_ e,i_ e];exact⟨rfl,r.2.1,f⟩
   ·rw[ir e,ir e];exact r
 ·rename_i hc;clear a hc
  induction h with|nil=>exact .cons ⟨rfl,g,f⟩ .nil|cons r t b=>exact .cons r b
def sr.len(h:sr a b):a.length=b.length:=Paired.length h
section
variable{X:Cx}{P:RH}{w:World}{o e f:Expr}{l c b:Pos}{j ty g:TE}
def Lu(P:RH)(w:World):TE:=λ_ H Q=>∀p,H p=none->Q (.ref p) (az H p (dM P w p []))
def Gf(i:X.prog=P:=by rfl)(n:X.w=w:=by rfl):PE X (.Dict [] [] l) (Lu P w):=λd s k H Q I h=>by subst i n;refine wpAny_Dict_empty ⟨.ref s.heap.objs.size,_,I.laid (a:=s.heap.objs.size) (o:=dM X.prog X.w s.heap.objs.size []) (t':=s.toks) (λ_ _ q=>b_ _ q) (f_ _) ?_,rfl,h _ (I.hok.fresh (f_ _))⟩;exact K0 (ys:=[]) (I_.mpr λz=>absurd (z▸I.big) (rm _)) .nil ⟨⟨_,#[],0,g_ _ rfl,⟨rfl,rfl,rfl⟩,rfl,rfl⟩,Qk⟩
def Lr(K:RC)(P:RH)(w:World)(j ty g:TE):TE:=λh H Q=>j h H λx n=>∃a i,x=.ref a/\n a=some (dM P w a i)/\ty h n λy p=>g h p λz d=>∃m k,d a=some (dM P w a m)/\eA K d m/\c6 K d k y/\Q ((fk m k).getD z) d
def Ge(K:RC)(v:X.K=K)(B:X.A.units+1<cLine)(C:PE X o j)(D:PE X e ty)(E:PE X f g)(m:M2 X o "get" c e f b)(G:X.prog=P:=by rfl)(J:X.w=w:=by rfl):PE X (.Call (.Attribute o "get" c) [e,f] [] b) (Lr K P w j ty g):=by subst G J v;intro i s q H Q I h;refine P2 m.base m.few m.line PySem.F.plainAttrs_dict PySem.F.slot_dict_get PySem.F.type_dict_get (cy (C i s q H _ I h) λu L⟨x,M,I1,N,a,O,ex,d,R⟩=>?_);subst ex;cases(show u=Value.ref a from N);obtain⟨⟨_,S,_,r⟩,_⟩:=I1.hok a _ d;refine⟨r.type,r.bare,?_⟩;rw[m.trees];refine s_ rfl (yl (sm (cy (D i L q M _ I1 R) λiv T⟨y,U,V,Y,Z⟩=>sm (cy (E i T q U _ V Z) λfv s3⟨z,H3,p,rz,xs,k,d3,ks,hk,q3⟩=>z3 ?_))));obtain⟨⟨hd,ys,n,t⟩,_⟩:=p.hok a _ d3;refine M_ PySem.F.slot_dict_get t.type PySem.F.entry_dict_get (PySem.F.args_dict_get_3 _ _ _) (Cb a iv fv hd) ⟨B,k,ys,hk.is p Y,t,n.keys p ks,?_⟩;exact⟨_,H3,p.tok _,(n.val k).getD rz,q3⟩
def NY(K:RC)(P:RH)(w:World):KB:=λo i v H Q=>∃a d k,o=.ref a/\H a=some (dM P w a d)/\eA K H d/\c6 K H k i/\d.length<sizeLine/\Q (az H a (dM P w a (fW d k i v)))
def F2(K:RC)(x:X.K=K)(y:X.A.units+1<cLine)(z:X.prog=P:=by rfl)(B:X.w=w:=by rfl):KF X (NY K P w):=by subst z B x;intro p s L H o i v M iv u Q I C r D h;obtain⟨a,N,k,rfl,d,E,F,G,q⟩:=h;cases C;obtain⟨⟨hd,O,n,m⟩,_⟩:=I.hok a _ d;refine Eu y (F.is I r) m (n.keys I E) (by rw[<-n.len];exact G) λh' t J=>?_;refine⟨_,ub I (by rw[d];exact True.intro) J (let⟨o,_,_,e,_⟩:=t.ok;⟨o,e⟩) ?_,q⟩;exact K0 hd (n.put r D) t
end
end L2
namespace L2
open PySem PySem.W PyProof.Rows
section
variable{X:Cx}{o e b:Expr}{f:Str}{g c:Pos}{j l:TE}
def aI(K:RC)(a:X.K=K)(d:PE X e j)(h:attributeBase e f X.env (eval e X.env)=eval e X.env:=by rfl):PE X (.Attribute e f g) (NK K j f):=by subst a;exact L5 d h
def cw(K:RC)(a:X.K=K)(d:PE X o j)(h:PE X b l)(i:swapsWith b (some (.Attribute o f c)) g.line X.env=pure false:=by rfl):PS X (.Assign [.Attribute o f c] b g) (NV K j l f):=by subst a;exact LZ d h i
def N1:KB:=λo i v H Q=>∃a d k,o=.ref a/\i=kV k/\H a=some (.dK d)/\d.length<sizeLine/\Q (az H a (.dK (c7 d k v)))
def lw(n:X.A.units+1<cLine):KF X N1:=by intro m s z H o i v B iv u Q I p r t h;obtain⟨a,w,k,rfl,rfl,d,x,q⟩:=h;cases p;exact EV n I (KI.k d x) r t λC y=>⟨_,y,q⟩
end
end L2
namespace L2
open PySem PySem.W PyProof.Rows
section
variable{P:RH}{w:World}{A:Around}{E:RD}{s:Shared}
def Hc(ty:s.TypeIs (.ref r) "list_reverseiterator")(q:Q false s):wpAny (model P w) A (Builtin.List.listLengthHint (.ref r)) Q E s:=by
 unfold Builtin.List.listLengthHint;refine a_ (QG (r:=none) ty (by rw[QH,P4];kernel_rfl) ?_);refine u_ (λz=>absurd z (by decide+kernel)) (λ_=>?_);refine u_ (λz=>absurd z (by decide)) (λ_=>?_);refine a_ (QG (r:=some (.builtin "list_reverseiterator.__length_hint__")) ty (by rw[QH,P4];kernel_rfl) ?_);generalize a:("list_reverseiterator.__length_hint__":String)=nm
 wp_delta
 rw[show splitId nm=some ("list_reverseiterator","__length_hint__")from by subst a;decide+kernel];subst a;refine a_ (Qw (T:="list_reverseiterator") (b:=true) ty (by rw[QS];kernel_rfl) ?_);refine u_ (λz=>absurd z (by decide)) (λ_=>?_);refine u_ (λ_=>?_) (λz=>absurd (by decide+kernel) z);refine u_ (λz=>absurd z (by decide+kernel)) (λ_=>?_);exact e_ q
def BR(hh:A.handled=none)(p:s.heap.IsRevIter r l ((a.size:Int)-1))(D:s.heap.IsList l a)(hn:a.size<=sizeLine)(t:l≠r)(n:S≠r)(u:S≠l)(d:Value)(y:Nat)(G:s.heap.get? S=some {cls:=.type "list",data:=.seq #[] y})(q:∀h' tk g c,(∀b o,b≠S->b≠r->s.heap.get? b=some o->h'.get? b=some o)->h'.get? S=some {cls:=.type "list",dict:=none,data:=.seq g c,slots:=#[]}->ItemsOf (λi v=>a[a.size-1-i]?=some v) g a.size->R (.ok (.ret d)) {s with heap:=h',toks:=tk}):wpAny (model P w) A.in1 (Builtin.List.listExtendWith (.ref S) (.ref r) d) (λfin j=>match fin with|.done f=>R (.ok f) j|.again B=>B.quiet=true/\codeAny (model P w) A B R j) (λe j=>R (.error e) j) s:=by
 have W:=Walks.listRev (prog:=P) (w:=w) (A:=A.in1) hh r l t a;have go:∀(h:Heap)(k tk:Nat),h.IsRevIter r l ((a.size:Int)-1)->h.IsList l a->(∀b o,b≠S->s.heap.get? b=some o->h.get? b=some o)->h.get? S=some {cls:=.type "list",data:=.seq #[] k}->codeAny (model P w) A (.builtin "list.extend.loop" ⟨[.ref S,.ref r,d],[]⟩) R {s with heap:=h,toks:=tk}:=by
  intro h k tk x H I J;refine codeAny_extend_loopS W.toS hn S (by simp[n,u]) d a.size 0 _ #[] k rfl (m_ _) ⟨m_ _,by simpa using x,H⟩ J (ItemsOf.nil _) λj g c C K L=>?_;rw[Moved.eq_with C];refine q j.heap j.toks g c (λb o b1 b2 e=>C.heap b o (λm=>?_) (I b o b1 e)) K L;rcases pv.mp m with z|z
  ·exact b1 z
  ·exact b2 (List.mem_singleton.mp z)
 unfold Builtin.List.listExtendWith;refine a_ (Q5 p.typeIs ?_);have ne:Builtin.List.listSameRef (.ref S) (.ref r)=false:=by simp[Builtin.List.listSameRef,n]
 have M:(Value.type "list_reverseiterator"==Value.type "list")=false:=by decide
 have N:(Value.type "list_reverseiterator"==Value.type "tuple")=false:=by decide
 simp only[ne,M,N,Bool.or_false,PZ,Qy];refine a_ (wpAny_pyIter_revIter p (a_ (p_ (Hc p.typeIs ?_))));refine u_ (λz=>absurd z (by decide+kernel)) (λ_=>e_ ⟨PQ PySem.F.plain_extend_loop _,go s.heap y s.toks p D (λ_ _ _ e=>e) G⟩)
def F5(hh:A.handled=none)(u:s.heap.IsRevIter r l ((items.size:Int)-1))(x:s.heap.IsList l items)(hn:items.size<=sizeLine)(f:l≠r)(q:∀h' tk a c,(∀b o,b≠r->s.heap.get? b=some o->h'.get? b=some o)->h'.get? s.heap.objs.size=some {cls:=.type "list",dict:=none,data:=.seq a c,slots:=#[]}->ItemsOf (λi v=>items[items.size-1-i]?=some v) a items.size->Q (.ref s.heap.objs.size) {s with heap:=h',toks:=tk}):wpAny (model P w) A (call (.type "list") [.ref r]) Q E s:=by
 refine callType_codes (Q₁:=λobj k=>obj=.ref s.heap.objs.size/\k={s with heap:=s.heap.push {cls:=.type "list",data:=.seq #[]}}) PySem.F.called_list (PySem.F.typeCall_list_1 _) PySem.F.entry_list_init (code_list_new _ ⟨rfl,rfl⟩) λobj k z=>?_;obtain⟨rfl,rfl⟩:=z;have new:(s.heap.push {cls:=.type "list",data:=.seq #[]}).get? s.heap.objs.size=some {cls:=.type "list",data:=.seq #[]}:=g_ _ rfl;obtain⟨y,m,B,C⟩:=u;have n:s.heap.objs.size≠r:=ot (iq m);obtain⟨D,p,cl,G,dl⟩:=x;have t:s.heap.objs.size≠l:=ot (iq p);refine⟨⟨_,new,rfl⟩,PySem.F.args_list_init_2 _ _,?_⟩;show wpAny (model P w) _ (do let g<-Builtin.List.listItems (.ref s.heap.objs.size);Builtin.List.listUpdate (.ref s.heap.objs.size) (λ_=>#[]);letGo g.toList.reverse;Builtin.List.listExtendWith (.ref s.heap.objs.size) (.ref r) .none) _ _ _;refine a_ ?_;unfold Builtin.List.listItems;refine a_ (r4 new rfl (e_ (a_ (Rt new rfl (a_ (QR ?_))))));have d:=th (Obj.mapSeq (λ_=>(#[]:RK))) new rfl;have keep:∀b o,b≠s.heap.objs.size->s.heap.get? b=some o->((s.heap.push {cls:=.type "list",data:=.seq #[]}).update s.heap.objs.size (Obj.mapSeq (λ_=>(#[]:RK)))).get? b=some o:=λb o h e=>by rw[u1 _ _ (o_ h)];exact b_ _ e
 refine BR (A:=A.in1) hh ⟨y,keep _ _ (o_ n) m,B,C⟩ ⟨D,keep _ _ (o_ t) p,cl,G,dl⟩ hn f n t .none _ d λh' tk a c H I J=>?_;exact⟨rfl,q h' tk a c (λb o h e=>H b o (k4 (iq e)) h (keep b o (k4 (iq e)) e)) I J⟩
end
section
variable{X:Cx}{e:Expr}{te:TE}{p1 p2 f d:Pos}
def ND(K:RC)(te:TE):TE:=λc H Q=>te c H λx a=>∃p b,x=.ref p/\aO K a p b/\∀l,a l=none->Q (.ref l) (az a l (.lst b.reverse))
def BV(K:RC)(Z:X.K=K)(hc:X.calm=true)(g1:Gl X "list")(m1:X.mg "list"=none)(g2:Gl X "reversed")(m2:X.mg "reversed"=none)(he:PE X e te)(t:starEach [.Call (.Name "reversed" p2) [e] [] d] X.env=[(false,eval (.Call (.Name "reversed" p2) [e] [] d) X.env)]:=by rfl)(y:starEach [e] X.env=[(false,eval e X.env)]:=by rfl):PE X (.Call (.Name "list" p1) [.Call (.Name "reversed" p2) [e] [] d] [] f) (ND K te):=by
 subst Z;intro m s L H Q I h;refine wr (lO I g1 m1 L2.k6 (callWith_type1 ?_ t));rw[t];show wpAny (model X.prog X.w) X.A (spliced [(false,eval (.Call (.Name "reversed" p2) [e] [] d) X.env)]) _ _ s;refine sm (wr (lO I g2 m2 L2.xb (callWith_type1 ?_ y)));rw[y];show wpAny (model X.prog X.w) X.A (spliced [(false,eval e X.env)]) _ _ s;refine sm (cy (he m s L H _ I h) λu i⟨x,U,I1,V,p,Y,ex,hq,q⟩=>z3 ?_);subst ex;cases(show u=Value.ref p from V);obtain⟨g,M,⟨o,n,D,co,dd,ds⟩,N⟩:=I1.list hq;have hl:i.heap.IsList p g.toArray:=⟨o,D,co,n,ds⟩;refine call_reversed_list hl (z3 ?_);have pr:p≠i.heap.objs.size:=k4 (iq D);have O:aL X m L U {i with heap:=i.heap.push (revObj p ((g.toArray.size:Int)-1))}:=I1.kept (t':=i.toks) λb o e=>b_ _ e;refine F5 (r:=i.heap.objs.size) (l:=p) (items:=g.toArray) (I.ok.hd hc) ⟨_,g_ _ rfl,rfl,rfl⟩ ⟨o,b_ _ D,co,n,ds⟩ (by simpa[<-M.length]using N) pr λh' tk k c kk sS R=>?_;have B:k.toList=g.reverse:=by
  refine zz λj=>?_;have F:k.size=g.length:=by simpa using R.1
  rcases Qj j g.length with C|C
  ·have S:k[j]?=some (k[j]'(by lia)):=v3 _;have G:=R.2 j _ S;rw[wh,S,List.getElem?_reverse C];simpa using G.symm
  ·rw[o0 (by simpa[F]using C),o0 (by simpa using C)]
 have I3:=O.laid (a:=(i.heap.push (revObj p ((g.toArray.size:Int)-1))).objs.size) (o:=.lst Y.reverse) (h':=(i.heap.push (revObj p ((g.toArray.size:Int)-1))).push {cls:=.type "list",data:=.seq k c}) (t':=tk) (λb u e=>b_ _ e) (f_ _) ⟨by rw[Qh];exact N,g.reverse,c,M.reverse,by rw[<-B];exact g_ _ rfl⟩
 have J:i.heap.objs.size<(i.heap.push (revObj p ((g.toArray.size:Int)-1))).objs.size:=by rw[n_];lia
 have I4:=I3.turned (it:=i.heap.objs.size) (h':=h') (t':=tk) (λb o hb e=>?_) (by rw[am (k4 J)];exact I1.hok.fresh (f_ _)) (ot I1.lt) (.inr I1.sz) (λx c e z=>by obtain⟨v,o,T,_⟩:=I1.cell x c e;rw[z]at T;exact absurd (iq T) (rm _)) (λpp hp z=>by have:=(I1.pin pp hp).1;rw[z]at this;exact absurd (iq this) (rm _))
 ·exact⟨.ref (i.heap.push (revObj p ((g.toArray.size:Int)-1))).objs.size,_,I4,rfl,q _ (O.hok.fresh (f_ _))⟩
 ·by_cases z:b=(i.heap.push (revObj p ((g.toArray.size:Int)-1))).objs.size
  ·subst z;rw[g_ _ rfl]at e;cases e;exact sS
  ·rcases PF e with⟨z2,_⟩|G
   ·exact absurd z2 z
   ·exact kk b o hb G
end
end L2
namespace L2
open PySem PySem.W PyProof.Rows
section
variable{P:RH}{w:World}{A:Around}{E:RD}{s:Shared}
end
section
variable{X:Cx}{P:RH}{w:World}{o e f i:Expr}{c b a:Pos}{g ty d:TE}
end
end L2
namespace L2
open PySem
seal L2.xc L2.PS L2.PE L2.PT L2.PA L2.PI L2.PG L2.PW L2.MV L2.PO
section
variable{X:Cx}
end
section
variable{X:Cx}
def E9:cN X (.builtin "isinstance") (λc H Q=>∃x T t b,c=[x,.ty T]/\(nH X.K H x t\/∃p d,x=.ref p/\aT X.K H p d/\t=.type "tuple")/\PySem.W.kitOne X.K t (.type T)=some b/\Q (.bl b) H):=by
 intro a s f H c g Q I r h;obtain⟨x,T,t,b,rfl,ty,e,q⟩:=h;rcases ty with ty|⟨p,d,rfl,i,rfl⟩
 ·exact Bk a s f H _ g Q I r ⟨x,T,t,b,rfl,ty,e,q⟩
 ·obtain⟨u,j,rfl,k,rt⟩:=xi r;obtain rfl:j=Value.type T:=rt;cases k;obtain⟨l,_,⟨o,h1,h2,_⟩,_⟩:=I.tuple i;exact PySem.W.kia_one PySem.W.kitx_tuple I.kIn ⟨o,h1,h2⟩ e (nofun) λtk=>⟨.bl b,H,I.tok tk,rfl,q⟩
def dP(K:RC)(a:X.K=K):cN X (.builtin "isinstance") (λc H Q=>∃x T t b,c=[x,.ty T]/\(nH K H x t\/∃p d,x=.ref p/\aT K H p d/\t=.type "tuple")/\PySem.W.kitOne K t (.type T)=some b/\Q (.bl b) H):=by subst a;exact E9
end
end L2
namespace L2
open PySem PySem.Spec PyProof.Rows
section
variable{X:Cx}{a:Expr}
end
section
variable{X:Cx}
end
end L2
namespace L2
open PySem PySem.Spec PyProof.Rows
def KG(K:RC)(pm:Params)(a:Addr):Prop:=(a==sysModules)=false/\∃b n,K.lookup a=some ⟨.type "dict",none,.dict b n,#[]⟩/\PySem.W.KeysLit pm b.toList
def Pt(K:RC)(t:Addr)(b:List V):Prop:=∃(o:Obj)(a:RK)(n:Nat),K.lookup t=some o/\o.cls=.type "tuple"/\o.data=.seq a n/\a.size<=sizeLine/\aY b a.toList
def Pt.sq{K:RC}{t:Addr}{a:List V}(h:Pt K t a)(H:Hp):aT K H t a:=.inr h
section
variable{X:Cx}{o i:Expr}{a:Pos}{b ty:TE}
end
end L2
namespace L2
open PySem PySem.Spec PyProof.Rows
section
variable{X:Cx}{o i:Expr}{a:Pos}{b ty:TE}
end
end L2
namespace L2
open PySem PySem.Spec PyProof.Rows
section
variable{prog:RH}{w:World}{A:Around}{E:RD}{s:Shared}{d:Type}[DecidableEq d][BEq d][LawfulBEq d]
set_option maxHeartbeats 3200000 in
def yn(n:PySem.KeyKind prog w d)(hh:A.handled=none)(P:s.heap.IsTuple l h)(t:∀i v,h[i]?=some v->n.is (key i) v=true/\v.scannable=true)(x:h.size+1<scanBound)(k:∀(h':Heap)(tk:Nat),jL n key s.heap.objs.size h.size h'->(∀b o,s.heap.get? b=some o->h'.get? b=some o)->Q (.ref s.heap.objs.size) {s with heap:=h',toks:=tk}):wpAny (model prog w) A (call (.type "set") [.ref l]) Q E s:=by
 obtain⟨c,X,I⟩:=F.called_set.mro;have made:=F.called_set.made;have sub:=F.called_set.sub;have Y:=F.called_set.notType;have Z:=F.called_set.canCreate;have tc:=Rp (.ref l);refine QE (QJ ?_);show wpAny _ _ (callAny (.type "set") _) _ _ _;refine e_ ⟨Q3 _ (by decide+kernel),vl Re ?_⟩;rw[Q4 (QO "set" [.ref l] []) rfl]
 (repeat(any_goals(first|assumption|wp_step)));skip
 refine t0 (code_set_new_1 (.ref l) (E:=E) (Q₁:=λu s₁=>∃led:Bool,u=.ref s.heap.objs.size/\s₁={s with heap:=s.heap.push (aZ led)}) λled=>⟨led,rfl,rfl⟩) λr s₁ C=>?_;cases r with|error e=>exact C|ok O=>cases O with
 |ret u=>
   obtain⟨led,rfl,rfl⟩:=C;have K:(s.heap.push (aZ led)).get? s.heap.objs.size=some (aZ led):=g_ _ rfl;have ty:Shared.TypeIs {s with heap:=s.heap.push (aZ led)} (.ref s.heap.objs.size) "set":=⟨_,K,rfl⟩;have li:=F.called_set.init.lookup;have bi:=F.called_set.init.bind (.ref s.heap.objs.size)
   (repeat(any_goals(first|assumption|wp_step)));skip
   refine t0 (QT (R:=wants (λr m=>r=.none/\∃h' tk,m={s with heap:=h',toks:=tk}/\jL n key s.heap.objs.size h.size h'/\∀b o,s.heap.get? b=some o->h'.get? b=some o) E) F.called_set.init.plain Rr (Rk ty ?_)) λy m j=>?_
   ·obtain⟨⟨cl,S,dt,sl⟩,e,L,M,N⟩:=id P;simp only at L N;subst L;subst N;have T:(s.heap.push (aZ led)).get? l=some {cls:=.type "tuple",dict:=S,data:=.seq h M,slots:=sl}:=b_ _ e;have s1:=F.sub_tuple_set;have s2:=F.sub_tuple_frozenset;have ne:(Value.type "tuple"==Value.type "dict")=false:=by decide
    have z:(s.heap.push (aZ led)).IsTuple l h:=⟨_,T,rfl,M,rfl⟩;unfold Builtin.«set.__init__»noKeywords Builtin.Frozenset.updateFrom;generalize D:pyIter=PI;wp_walk;subst D;refine C2 z ?_;refine a_ (QQ ?_);have lt:l<s.heap.objs.size:=iq e;have sz:(s.heap.push (aZ led)).objs.size=s.heap.objs.size+1:=n_ ..;refine z9 n ((Walks.tuple (A:=A.in1.in1.in1) (by simp[hh]) _ l (by rw[sz];exact k4 (ri lt)) h).toS) (a:=s.heap.objs.size) (by rw[sz];simp only[pv,oe,w_,not_or];exact⟨k4 (rx _),ot lt⟩) key t x (h.size-0) 0 _ (by lia) (m_ _) ⟨⟨_,g_ _ rfl,rfl,rfl⟩,z.push _⟩ ?f0 ?fR
    case f0=>have g:((s.heap.push (aZ led)).push {cls:=.type "tuple_iterator",data:=.fields #[.ref l,.int 0 0]}).get? s.heap.objs.size=some (aZ led):=b_ _ K;exact SetOf_congr ((setObjOf_fresh (knd:=n) led).setOf g (by unfold scanBound;lia)) (λ_=>rfl) rfl
    case fR=>rintro⟨h',U,V,G,H⟩B f;obtain rfl:U=s.gens:=B.gens;obtain rfl:V=s.drawn:=B.drawn;obtain rfl:H=s.os:=B.os;show wpAny _ _ _ _ _ _;refine e_ (show wpAny _ _ (ret Value.none) _ _ _ from e_ ⟨rfl,h',G,rfl,f,λb o q=>?_⟩);have b1:b<s.heap.objs.size:=iq q;exact B.heap b o (by rw[sz];simp only[pv,oe,w_,not_or];exact⟨k4 b1,k4 (ri b1)⟩) (b_ _ (b_ _ q))
   ·cases y with|error e=>exact j|ok p=>cases p with|ret r=>
      obtain⟨rfl,h',tk,rfl,f,W⟩:=j
      (repeat(any_goals(first|assumption|wp_step)));exact k _ _ f W|_=>exact j.elim
  |_=>exact C.elim
end
section
variable{X:Cx}
def E5(hc:X.calm=true):cN X (.type "set") (λd H Q=>∃(p:Addr)(a:List bL),d=[.ref p]/\aT X.K H p (a.map kV)/\a.length<4000/\∀q,H q=none->Q (.ref q) (az H q (Aa X.prog X.w q (λk=>(dd a).any (·==k)) (dd a).length))):=by
 intro j s J H d L Q I r h;obtain⟨p,a,rfl,z,l,q⟩:=h;obtain⟨u,rfl,A⟩:=jV r;cases A;obtain⟨b,m,pl,M⟩:=I.tuple z;have n:=m.length;rw[c_]at n;refine yn (aK X.prog X.w) (key:=λi=>a.getD i (.inl 0)) (I.ok.hd hc) (show s.heap.IsTuple p b.toArray from pl) (λi v c=>?_) (by rw[j_];unfold scanBound;lia) λh' tk f C=>?_
 ·have c:b[i]?=some v:=by simpa using c
  have hi:i<b.length:=(d_.mp c).1;obtain⟨u,h1,h2⟩:=m.get (i:=i) (x:=kV (a[i]'(by lia))) (by rw[ig,hY (by lia)];rfl);rw[c]at h1;cases h1;have e:a.getD i (.inl 0)=a[i]'(by lia):=by simp[List.getD,hY (show i<a.length by lia)]
  show(aK X.prog X.w).is (a.getD i (.inl 0)) v=true/\_;rw[e,oI];exact y8 h2
 ·have f:h'.SetOf (aK X.prog X.w) s.heap.objs.size (λk=>(dd a).any (·==k)) (dd a).length:=by
   have y:h'.SetOf (aK X.prog X.w) s.heap.objs.size (λk=>(ma (λi=>a.getD i (.inl 0)) b.toArray.size).any (·==k)) (ma (λi=>a.getD i (.inl 0)) b.toArray.size).length:=f;have D:b.toArray.size=a.length:=by rw[j_];exact n.symm
   rw[D,yI]at y;exact y
  refine⟨.ref s.heap.objs.size,_,I.laid (h':=h') (t':=tk) (o:=Aa X.prog X.w s.heap.objs.size (λk=>(dd a).any (·==k)) (dd a).length) C (f_ _) ⟨f,?_,λh1 h2 g E=>?_⟩,rfl,q _ (I.hok.fresh (f_ _))⟩
  ·obtain⟨o,_,_,_,e,_⟩:=f;exact⟨o,e⟩
  ·obtain⟨o,F,G,t,e,mz⟩:=g;exact⟨o,F,G,t,E o e,mz⟩
def CO(K:RC)(b:X.K=K)(hc:X.calm=true)(c:X.prog=P:=by rfl)(d:X.w=w:=by rfl):cN X (.type "set") (λe H Q=>∃(p:Addr)(a:List bL),e=[.ref p]/\aT K H p (a.map kV)/\a.length<4000/\∀q,H q=none->Q (.ref q) (az H q (Aa P w q (λk=>(dd a).any (·==k)) (dd a).length))):=by subst b;subst c;subst d;exact E5 hc
end
end L2
namespace L2
open PySem PySem.Spec PyProof.Rows
section
variable{P:RH}{w:World}{A:Around}{E:RD}{s:Shared}
def oZ(c:s.heap.IsTupleIter j t k)(f:s.heap.IsTuple t d)(h:d[k]?=some v)(q:∀g,g.IsTupleIter j t (k+1)->Heap.SameBut j s.heap g->Q v {s with heap:=g}):wpAny (model P w) A (Builtin.SmallTypes.nextOf (.ref j)) Q E s:=by obtain⟨ob,b,i,a⟩:=id c;obtain⟨l,f1,_,m,f3⟩:=f;unfold Builtin.SmallTypes.nextOf;refine a_ (q4 (name:=Str.ofString "__next__") c.typeIs PH (qq PH c.typeIs F.entry_tuple_iterator_next ?_ (RB _)));refine(show wpAny _ _ (field (.ref j) 0>>=_) _ _ s from a_ (ry b a (x:=.ref t) rfl ?_));refine(show wpAny _ _ (if(Value.ref t==Value.none)=true then _ else(field (.ref j) 1>>=_)) _ _ s from ?_);rw[ir (show¬(Value.ref t==Value.none)=true fromλz=>lm z)];refine a_ (ry b a (x:=.int k 0) rfl ?_);refine(show wpAny _ _ (seqItems? (.ref t)>>=_) _ _ s from a_ (r4 f1 f3 ?_));simp only[pu,h];refine a_ (wpAny_setField b a (by simp) (e_ ⟨v,rfl,e_ (q _ ⟨_,th _ b (Obj.isFreed_of_fields (Obj.data_mapFields a _)),(Obj.cls_mapFields ..).trans i,?_⟩ (J_ ..))⟩));rw[Obj.data_mapFields a];simp[rawInt]
def zQ(hh:A.handled=none)(b:s.heap.IsTupleIter j t k)(h:s.heap.IsTuple t c)(i:c[k]?=none)(q:∀g x,Heap.ExtBut j s.heap g->(∃ob,g.get? x=some ob/\ob.cls=.type "StopIteration")->E (.ref x) {s with heap:=g}):wpAny (model P w) A (Builtin.SmallTypes.nextOf (.ref j)) Q E s:=by
 obtain⟨ob,d,l,e⟩:=id b;obtain⟨n,f1,_,o,f3⟩:=h;unfold Builtin.SmallTypes.nextOf;refine a_ (q4 (name:=Str.ofString "__next__") b.typeIs PH (qq PH b.typeIs F.entry_tuple_iterator_next ?_ (RB _)));refine(show wpAny _ _ (field (.ref j) 0>>=_) _ _ s from a_ (ry d e (x:=.ref t) rfl ?_));refine(show wpAny _ _ (if(Value.ref t==Value.none)=true then _ else(field (.ref j) 1>>=_)) _ _ s from ?_);rw[ir (show¬(Value.ref t==Value.none)=true fromλz=>lm z)];refine a_ (ry d e (x:=.int k 0) rfl ?_);refine(show wpAny _ _ (seqItems? (.ref t)>>=_) _ _ s from a_ (r4 f1 f3 ?_));simp only[pu,i];refine a_ (z4 (a_ (wpAny_setField d e (by simp) (show wpAny _ _ (newExc (.type "StopIteration") []>>=_) _ _ _ from a_ ?_))));simp only[newExc,newTuple];refine a_ (rb (a_ (m:=firstArgMember _ _) (wpAny_of_eq (a:=Value.none) (by first|rfl|(simp only[firstArgMember];rfl)) (rb ?_ (by size_fits)))) (by size_fits));simp only[raiseNew];refine a_ (wpAny_handled ?_)
 first|rw[show A.in1.handled=none from hh]|rw[hh]
 exact a_ (e_ (wpAny_throw (q _ _ (((J_ ..).extBut.push _).push _) ⟨_,g_ _ rfl,rfl⟩)))
def Bu(z a b d:Addr)(h g:Heap):Prop:=∀c ob,c≠z->c≠a->c≠b->c≠d->h.get? c=some ob->g.get? c=some ob
def DT{z h d j n t l:Addr}{L M:Nat}{Z ys:RK}{x y a b:Value}{Q:RD}(D:ZipApart z h d j n t l)(B:IsZip s.heap z h d .none)(p1:IsPair s.heap h (.ref j) (.ref n))(p2:IsPair s.heap d a b)(i1:s.heap.IsTupleIter j t L)(i2:s.heap.IsListIter n l M)(tt:s.heap.IsTuple t Z)(ll:s.heap.IsList l ys)(hx:Z[L]?=some x)(hy:ys[M]?=some y)(q:∀g,IsZip g z h d (rawInt s.heap.objs.size)->IsPair g d x y->g.IsTupleIter j t (L+1)->g.IsListIter n l (M+1)->IsPair g s.heap.objs.size x y->g.objs.size=s.heap.objs.size+1->Bu z d j n s.heap g->Q (.ref s.heap.objs.size) {s with heap:=g}):wpAny (model P w) A (Builtin.«zip.__next__» ⟨[.ref z],[]⟩) (λfin s'=>∃v,fin=.done (.ret v)/\Q v s') E s:=by
 refine(show wpAny _ _ (field (.ref z) 2>>=_) _ _ _ from a_ (ry B rfl (x:=.bool false) rfl ?_));refine(show wpAny _ _ (field (.ref z) 3>>=_) _ _ _ from a_ (ry B rfl (x:=.ref h) rfl (a_ (r4 p1 rfl ?_))));refine(show wpAny _ _ (Builtin.SmallTypes.ownedTupleIsFree (.ref z)>>=_) _ _ _ from a_ ?_);unfold Builtin.SmallTypes.ownedTupleIsFree;refine a_ (ry B rfl (x:=.none) rfl (e_ ?_));simp only[QZ];refine a_ (z4 (a_ (ry B rfl (x:=.ref d) rfl (a_ (pw B (by simp) λg1 O k=>?_)))))
 replace O:IsZip g1 z h d .ellipsis:=O
 refine a_ ?_;simp only[Rm,Rx,Qd,List.forIn_nil];refine a_ (a_ (Qr (show wpAny _ _ (Builtin.SmallTypes.nextOf (.ref j)>>=_) _ _ _ from a_ (oZ (i1.extBut k.extBut D.i1z) (tt.extBut k.extBut D.l1z) hx λg2 R r=>e_ ?_))));have C:IsPair g2 d a b:=r.extBut _ _ D.TOi1 (k.extBut _ _ D.TOz p2);refine a_ (r4 C rfl (a_ (P9 C λg3 m u=>?_)))
 replace m:IsPair g3 d x b:=m
 refine a_ (QR (e_ (a_ (a_ (Qr ?_)))));refine(show wpAny _ _ (Builtin.SmallTypes.nextOf (.ref n)>>=_) _ _ _ from a_ (wpAny_nextOf_list_item (((i2.extBut k.extBut D.i2z).extBut r.extBut D.i12.symm).extBut u.extBut D.TOi2.symm) (((ll.extBut k.extBut D.l2z).extBut r.extBut D.l2i1).extBut u.extBut D.l2TO) hy λg4 S F=>e_ ?_))
 have G:IsPair g4 d x b:=F.extBut _ _ D.TOi2 m;refine a_ (r4 G rfl (a_ (P9 G λf i H=>?_)))
 replace i:IsPair f d x y:=i
 refine a_ (QR (e_ (e_ (a_ (r4 i rfl (a_ (wpAny_newTuple ?_)))))));have sz:f.objs.size=s.heap.objs.size:=by rw[H.1,F.1,u.1,r.1,k.1]
 have z5:IsZip f z h d .ellipsis:=H.extBut _ _ D.TOz.symm (F.extBut _ _ D.i2z.symm (u.extBut _ _ D.TOz.symm (r.extBut _ _ D.i1z.symm O)));have k5:Bu z d j n s.heap f:=λc o p K T U e=>H.extBut _ _ K (F.extBut _ _ U (u.extBut _ _ K (r.extBut _ _ T (k.extBut _ _ p e))));have V:f.IsTupleIter j t (L+1):=((R.extBut u.extBut D.TOi1.symm).extBut F.extBut D.i12).extBut H.extBut D.TOi1.symm;have W:f.IsListIter n l (M+1):=S.extBut H.extBut D.TOi2.symm;have zl:z<f.objs.size:=iq z5;refine(show wpAny _ _ (Builtin.SmallTypes.ownedTupleHandOut (.ref z) (.ref f.objs.size)>>=_) _ _ _ from a_ ?_);unfold Builtin.SmallTypes.ownedTupleHandOut;have z6:IsZip (f.push {cls:=.type "tuple",data:=.seq #[x,y]}) z h d .ellipsis:=b_ _ z5;refine a_ (pw z6 (by simp) λg7 X Y=>?_)
 replace X:IsZip g7 z h d (rawInt f.objs.size):=X
 refine pw X (by simp) λI N s8=>?_
 replace N:IsZip I z h d (rawInt f.objs.size):=N
 have up:∀c ob,c≠z->f.get? c=some ob->I.get? c=some ob:=λc ob p e=>s8.extBut _ _ p (Y.extBut _ _ p (b_ _ e));have pn:IsPair I f.objs.size x y:=s8.extBut _ _ (ot zl) (Y.extBut _ _ (ot zl) (g_ _ rfl));have J:I.objs.size=f.objs.size+1:=by rw[s8.1,Y.1,n_]
 rw[sz]at N pn J;refine e_ ⟨_,rfl,(show Q (.ref f.objs.size) _ from ?_)⟩;rw[sz];exact q I N (up _ _ D.TOz i) (V.at λob e=>up _ ob D.i1z e) (W.at λob e=>up _ ob D.i2z e) pn J λc ob p K T U e=>up c ob p (k5 c ob p K T U e)
def DS(hh:A.handled=none)(D:ZipApart z i h n p t l)(j:IsZip s.heap z i h .none)(p1:IsPair s.heap i (.ref n) (.ref p))(p2:IsPair s.heap h a b)(B:s.heap.IsTupleIter n t C)(F:s.heap.IsTuple t G)(H:G[C]?=none)(q:∀g e,Bu z h n p s.heap g->(∃ob,g.get? e=some ob/\ob.cls=.type "StopIteration")->E (.ref e) {s with heap:=g}):wpAny (model P w) A (Builtin.«zip.__next__» ⟨[.ref z],[]⟩) Q E s:=by
 refine(show wpAny _ _ (field (.ref z) 2>>=_) _ _ _ from a_ (ry j rfl (x:=.bool false) rfl ?_));refine(show wpAny _ _ (field (.ref z) 3>>=_) _ _ _ from a_ (ry j rfl (x:=.ref i) rfl (a_ (r4 p1 rfl ?_))));refine(show wpAny _ _ (Builtin.SmallTypes.ownedTupleIsFree (.ref z)>>=_) _ _ _ from a_ ?_);unfold Builtin.SmallTypes.ownedTupleIsFree;refine a_ (ry j rfl (x:=.none) rfl (e_ ?_));simp only[QZ];refine a_ (z4 (a_ (ry j rfl (x:=.ref h) rfl (a_ (pw j (by simp) λI m o=>?_)))))
 replace m:IsZip I z i h .ellipsis:=m
 refine a_ ?_;simp only[Rm,Rx,Qd,List.forIn_nil];refine a_ (a_ (Qr (show wpAny _ _ (Builtin.SmallTypes.nextOf (.ref n)>>=_) _ _ _ from a_ (zQ hh (B.extBut o.extBut D.i1z) (F.extBut o.extBut D.l1z) H λJ e r K=>?_))));obtain⟨L,f,k⟩:=K;have u:IsZip J z i h .ellipsis:=r _ _ D.i1z.symm m;have M:e≠z:=λc=>by subst c;rw[u]at f;cases f;simp at k
 exact pw u (by simp) λN _ v=>q N e (λc ob y _ O _ d=>v.extBut _ _ y (r _ _ O (o.extBut _ _ y d))) ⟨L,v.extBut _ _ M f,k⟩
def DU(D:ZipApart z f c d e t l)(h:IsZip s.heap z f c .none)(p1:IsPair s.heap f (.ref d) (.ref e))(p2:IsPair s.heap c a b)(n:s.heap.IsTupleIter d t i)(o:s.heap.IsListIter e l j)(p:s.heap.IsTuple t r)(u:s.heap.IsList l v)(B:r[i]?=some x)(C:v[j]?=some y)(q:∀g,IsZip g z f c (rawInt s.heap.objs.size)->IsPair g c x y->g.IsTupleIter d t (i+1)->g.IsListIter e l (j+1)->IsPair g s.heap.objs.size x y->g.objs.size=s.heap.objs.size+1->Bu z c d e s.heap g->Q (some (.ref s.heap.objs.size)) {s with heap:=g}):wpAny (model P w) A (pyNext (.ref z)) Q E s:=by have ty:s.TypeIs (.ref z) "zip":=⟨_,h,rfl⟩;unfold pyNext;refine a_ (P7 (q4 (name:=Str.ofString "__next__") ty PX (qq PX ty Rq (DT D h p1 p2 n o p u B C λg a1 m G a4 H I J=>?_) (Rf _))));exact e_ (q g a1 m G a4 H I J)
def zM(hh:A.handled=none)(D:ZipApart z f c d h t l)(i:IsZip s.heap z f c .none)(p1:IsPair s.heap f (.ref d) (.ref h))(p2:IsPair s.heap c a b)(n:s.heap.IsTupleIter d t o)(p:s.heap.IsTuple t r)(u:r[o]?=none)(q:∀g,Bu z c d h s.heap g->Q none {s with heap:=g}):wpAny (model P w) A (pyNext (.ref z)) Q E s:=by have ty:s.TypeIs (.ref z) "zip":=⟨_,i,rfl⟩;unfold pyNext;refine a_ (P7 (q4 (name:=Str.ofString "__next__") ty PX (qq PX ty Rq (DS hh D i p1 p2 n p u λg e k m=>?_) (Rf _))));obtain⟨ob,h1,h2⟩:=m;exact a_ (Qw (T:="StopIteration") (b:=true) ⟨ob,h1,h2⟩ isSubtype_stop (e_ (q g k)))
abbrev Ix(h:Heap)(t:Addr):Heap:=h.push {cls:=.type "tuple_iterator",data:=.fields #[.ref t,.int 0 0]}
abbrev OQ(h:Heap)(t l:Addr):Heap:=(Ix h t).push {cls:=.type "list_iterator",data:=.fields #[.ref l,.int 0 0]}
abbrev OP(h:Heap)(t l:Addr):Heap:=(OQ h t l).push {cls:=.type "tuple",data:=.seq #[.ref h.objs.size,.ref (Ix h t).objs.size]}
abbrev OO(h:Heap)(t l:Addr):Heap:=(OP h t l).push {cls:=.type "tuple",data:=.seq #[.none,.none]}
abbrev M7(h:Heap)(t l:Addr):Heap:=(OO h t l).push {cls:=.type "zip",data:=.fields #[.none,.bool false,.bool false,.ref (OQ h t l).objs.size,.ref (OP h t l).objs.size]}
def Ca(t l:Addr)(a b:RK):Meets (Builtin.«zip.__new__» ⟨[.type "zip",.ref t,.ref l],[]⟩) (λ_ R s=>s.heap.IsTuple t a/\s.heap.IsList l b/\R (.ok (.ret (.ref (OO s.heap t l).objs.size))) {s with heap:=M7 s.heap t l}):=.of_wp λprog w A R s h=>by
  obtain⟨c,g,d,tk,os⟩:=s;obtain⟨h1,h2,h⟩:=h;have e:=sub_zip;have f:Heap.IsTuple (Shared.heap ⟨c,g,d,tk,os⟩) t a:=h1;have i:Heap.IsList (Shared.heap ⟨c.push {cls:=.type "tuple_iterator",data:=.fields #[.ref t,.int 0 0]},g,d,tk,os⟩) l b:=Heap.IsList.push h2 _
  wp_walk using C2 f,O_ i
  exact⟨_,rfl,h⟩
def E2(h1:s.heap.IsTuple t n)(h2:s.heap.IsList l p)(q:∀g,IsZip g (s.heap.objs.size+4) (s.heap.objs.size+2) (s.heap.objs.size+3) .none->IsPair g (s.heap.objs.size+2) (.ref s.heap.objs.size) (.ref (s.heap.objs.size+1))->IsPair g (s.heap.objs.size+3) .none .none->g.IsTupleIter s.heap.objs.size t 0->g.IsListIter (s.heap.objs.size+1) l 0->(∀c o,s.heap.get? c=some o->g.get? c=some o)->Q (.ref (s.heap.objs.size+4)) {s with heap:=g}):wpAny (model P w) A (call (.type "zip") [.ref t,.ref l]) Q E s:=by
 refine callType_new F.called_zip (by decide) (F.typeCall_zip_2 _ _) (F.newCall_zip_2 _ _) (λob=>F.args_object_init_3 ob _ _) F.entry_zip_new (Ca t l n p) ⟨h1,h2,?_⟩;have a:(Ix s.heap t).objs.size=s.heap.objs.size+1:=n_ ..;have b:(OQ s.heap t l).objs.size=s.heap.objs.size+2:=by rw[n_,a]
 have e:(OP s.heap t l).objs.size=s.heap.objs.size+3:=by rw[n_,b]
 have h:(OO s.heap t l).objs.size=s.heap.objs.size+4:=by rw[n_,e]
 have f:(M7 s.heap t l).get? (OO s.heap t l).objs.size=some _:=g_ _ rfl;have i:(M7 s.heap t l).get? (OP s.heap t l).objs.size=some _:=b_ _ (g_ _ rfl);have j:(M7 s.heap t l).get? (OQ s.heap t l).objs.size=some _:=b_ _ (b_ _ (g_ _ rfl));have k:(M7 s.heap t l).get? (Ix s.heap t).objs.size=some _:=b_ _ (b_ _ (b_ _ (g_ _ rfl)));have m:(M7 s.heap t l).get? s.heap.objs.size=some _:=b_ _ (b_ _ (b_ _ (b_ _ (g_ _ rfl))));show _/\_;rw[b,e,h]at f;rw[a,b]at j;rw[e]at i;rw[a]at k;rw[h];exact⟨⟨_,f,rfl⟩,q _ f j i ⟨_,m,rfl,rfl⟩ ⟨_,k,rfl,rfl⟩ λc ob d=>b_ _ (b_ _ (b_ _ (b_ _ (b_ _ d))))⟩
end
def gN{X:Cx}{a:RE}{g:St}{H:Hp}{s:Shared}{h':Heap}{t':Nat}{ch:RM}(I:aL X a g H s)(k:∀b o,b∉ch->s.heap.get? b=some o->h'.get? b=some o)(f:∀b∈ch,vP X a H b):aL X a g H {s with heap:=h',toks:=t'}:=by
 have d:∀b u,H b=some u->b∉ch:=λb u e z=>by rw[(f b z).1]at e;cases e
 refine I.step (g':=s.gens) (d':=s.drawn) (ch:=ch) (λb h=>?_) (λb o _ _ hc e _=>k b o hc e) (λb o _ _ hc e _=>⟨o.slots,k b o hc e⟩) (λ_ _ _ _ n=>n) (λb o hc e=>⟨o,k b o hc e⟩) (λ_ _ e=>e) (λ_ _ _ e=>e) (λb w e=>⟨#[],by rw[e];simp⟩) (λm hm=>?_) (λb u e=>?_) I.bare
 ·obtain⟨_,f1,_,f3,f4,f5⟩:=f b h;exact⟨f3,f1,f4,f5⟩
 ·obtain⟨o,i,j,l,r⟩:=hm;exact⟨o,i,j,k _ o (λz=>(f _ z).2.1 rfl) l,r⟩
 ·refine(I.hok b u e).stay (λc v hc q=>k c v ?_ q) (λ_ q=>q) λ_ _ q=>q;rcases hc with z|z
  ·rw[z];exact d b u e
  ·exact d c _ z
def K5(K:RC)(t l:Addr):It:=⟨λi H=>∃a b x y,aT K H t a/\aO K H l b/\a[i]?=some x/\b[i]?=some y,λi H v c=>∃T x y,H T=none/\v=.ref T/\c=az H T (.tup [x,y])/\∀a b,aT K H t a->aO K H l b->a[i]?=some x/\b[i]?=some y,λi H=>∃a,aT K H t a/\a.length<=i⟩
def Fs{P:RH}{w:World}{K:RC}{J:RJ}{x1:Nat}{Q:Pos}{z j n q r t l:Addr}(D:ZipApart z j n q r t l):vK P w K (.Tuple J x1 Q) (K5 K t l) [z,j,n,q,r] z (λi h=>IsZip h z j n .none/\IsPair h j (.ref q) (.ref r)/\(∃a b,IsPair h n a b)/\h.IsTupleIter q t i/\h.IsListIter r l i)where
 mem:=by simp
 obj:=λi h st b d=>by
  obtain⟨a1,m,⟨_,_,A⟩,⟨an,a4,_,d4⟩,⟨ap,C,_,d5⟩⟩:=st;simp only[pv,oe,w_]at d;rcases d with rfl|rfl|rfl|rfl|rfl
  ·exact⟨_,a1,λv e=>by cases e⟩
  ·exact⟨_,m,λv e=>by cases e⟩
  ·exact⟨_,A,λv e=>by cases e⟩
  ·exact⟨_,a4,λv e=>by rw[d4]at e;cases e⟩
  ·exact⟨_,C,λv e=>by rw[d5]at e;cases e⟩
 keep:=λi h h' st k=>by obtain⟨a1,m,⟨a,b,A⟩,a4,C⟩:=st;exact⟨k z (by simp) _ a1,k j (by simp) _ m,⟨a,b,k n (by simp) _ A⟩,a4.at λob e=>k q (by simp) ob e,C.at λob e=>k r (by simp) ob e⟩
 item:=by
  intro X R S T hc i B s σ H E I O st hg;subst R S T;obtain⟨xs,ys,x,y,L,M,U,hy⟩:=hg;obtain⟨F,V,p,hz⟩:=I.tuple L;obtain⟨al,Y,p2,as⟩:=I.list M;obtain⟨u,hu,ru⟩:=V.get U;obtain⟨Z,aa,ad⟩:=Y.get hy;obtain⟨a1,m,⟨a,b,A⟩,a4,C⟩:=st;refine DU D a1 m A a4 C (show s.heap.IsTuple t F.toArray from p) p2.isList (x:=u) (y:=Z) (by simpa using hu) (by simpa using aa) λg b1 b2 b3 b4 b5 b6 off=>?_;refine⟨_,rfl,wpAny_letOwnedTupleGo_zip b1 λg' c1 G=>?_⟩;have lt:∀c∈[z,j,n,q,r],c≠s.heap.objs.size:=λc N e=>by
   have hs:∃ob,s.heap.get? c=some ob:=by
    simp only[pv,oe,w_]at N;rcases N with rfl|rfl|rfl|rfl|rfl
    ·exact⟨_,a1⟩
    ·exact⟨_,m⟩
    ·exact⟨_,A⟩
    ·obtain⟨ob,e,_⟩:=a4;exact⟨ob,e⟩
    ·obtain⟨ob,e,_⟩:=C;exact⟨ob,e⟩
   obtain⟨ob,h⟩:=hs;rw[e]at h;exact absurd (iq h) (rm _)
  have fresh:H s.heap.objs.size=none:=I.hok.fresh (f_ _);have I1:aL X B σ (az H s.heap.objs.size (.tup [x,y])) {s with heap:=s.heap.push {cls:=.type "tuple",data:=.seq #[u,Z]},toks:=s.toks}:=I.laid (λb o e=>b_ _ e) (f_ _) ⟨by rw[j1];simp,[u,Z],.cons ru (.cons ad .nil),⟨_,g_ _ rfl,rfl,_,rfl⟩⟩
  have I2:=gN (h':=g') (t':=s.toks) (ch:=[z,j,n,q,r]) I1 (λb o d e=>?_) (λb d=>?_)
  ·refine⟨.ref s.heap.objs.size,_,I2,rfl,⟨_,x,y,fresh,rfl,rfl,λa6 a7 h1 h2=>⟨by rw[I.tuple_inj h1 L];exact U,by rw[I.list_inj h2 M];exact hy⟩⟩,⟨c1,G.extBut _ _ D.TIz (off _ _ D.TIz D.TITO D.TIi1 D.TIi2 m),⟨_,_,G.extBut _ _ D.TOz b2⟩,b3.extBut G.extBut D.i1z,b4.extBut G.extBut D.i2z⟩,λb d=>?_⟩;rw[am (lt b d)];exact(O b d).1
  ·have f:b≠z/\b≠j/\b≠n/\b≠q/\b≠r:=by simpa using d
   by_cases eb:b=s.heap.objs.size
   ·subst eb;rw[g_ _ rfl]at e;cases e;exact G.extBut _ _ f.1 b5
   ·have e':s.heap.get? b=some o:=by
     rcases PF e with⟨z2,_⟩|e2
     ·exact absurd z2 eb
     ·exact e2
    exact G.extBut _ _ f.1 (off b o f.1 f.2.2.1 f.2.2.2.1 f.2.2.2.2 e')
  ·obtain⟨f0,f1⟩:=O b d;exact⟨by rw[am (lt b d)];exact f0,f1⟩
 done:=by
  intro X R S T hc i B s σ H E I O st hg;subst R S T;obtain⟨xs,hq,U⟩:=hg;obtain⟨F,V,p,hz⟩:=I.tuple hq;have hl:=V.length;obtain⟨a1,m,⟨a,b,A⟩,a4,C⟩:=st;refine zM (I.ok.hd hc) D a1 m A a4 (show s.heap.IsTuple t F.toArray from p) (by simp;lia) λg off=>⟨rfl,gN (t':=s.toks) (ch:=[z,j,n,q,r]) I (λb o d e=>?_) O⟩;have f:b≠z/\b≠j/\b≠n/\b≠q/\b≠r:=by simpa using d
  exact off b o f.1 f.2.2.1 f.2.2.2.1 f.2.2.2.2 e
 self:=λ_ _ _ _ _ st h=>Qv st.1 h
end L2
namespace L2
open PySem PySem.Spec PyProof.Rows PySem.W
section
variable{X:Cx}{c:Expr}
def HG{K:RC}{a l:Addr}{h o:List V}{g:TG}{ds:RL}{k:Nat}{tc:TT}{te:TE}{z:St}{A:Hp}{D:Addr}{F:Hp->Prop}(Pv:Nat->List V->Hp->Prop)(h0:Pv 0 [] (az A D (.lst [])))(C:h.length=o.length)(E:∀i d f,i<=h.length->Pv i d f->aT K f a h/\aO K f l o)(G:∀i x y d f T,h[i]?=some x->o[i]?=some y->Pv i d f->f T=none->g (.ref T) (fX ds k z) (az f T (.tup [x,y])) λj u=>tc j u λb r=>if b=true then te j r λy s=>s D=some (.lst d)/\d.length<sizeLine/\∃n,n<h.length-i/\n=h.length-(i+1)/\i+1<=h.length/\Pv (i+1) (d++[y]) (az s D (.lst (d++[y])))else∃n,n<h.length-i/\n=h.length-(i+1)/\i+1<=h.length/\Pv (i+1) d r)(hd:∀d f,Pv h.length d f->F f):∃W:Nat->Nat->List V->Hp->Prop,(∃m,W 0 m [] (az A D (.lst [])))/\∀i m d f,W i m d f->((K5 K a l).stop i f/\F f)\/((K5 K a l).go i f/\∀x v,(K5 K a l).yld i f x v->g x (fX ds k z) v λj u=>tc j u λb r=>if b=true then te j r λy s=>s D=some (.lst d)/\d.length<sizeLine/\∃n,n<m/\W (i+1) n (d++[y]) (az s D (.lst (d++[y])))else∃n,n<m/\W (i+1) n d r):=by
 refine⟨λi m d f=>m=h.length-i/\i<=h.length/\Pv i d f,⟨_,rfl,m_ _,h0⟩,?_⟩;rintro i m d f⟨rfl,hi,p⟩;obtain⟨q,B⟩:=E i d f hi p
 by_cases w:i<h.length
 ·have t:i<o.length:=by lia
  refine .inr ⟨⟨h,o,h[i],o[i],q,B,by simp[w],by simp[t]⟩,λx v y=>?_⟩;obtain⟨T,H,I,J,e,L,y⟩:=y;subst e L;obtain⟨M,N⟩:=y h o q B;exact G i H I d _ T M N p J
 ·have e:i=h.length:=by lia
  subst e;exact .inl ⟨⟨h,q,f_ _⟩,hd d f p⟩
end
end L2
namespace L2
open PySem PySem.Spec PyProof.Rows PySem.W
def Pd{K:RC}{w:World}{pm:Params}{a:Addr}(h:w.params=pm)(k:KG K pm a):KG K w.params a:=h▸k
def gl(c:Nat):List (List Nat)->List Nat|[]=>[]|[x]=>x|x::y::r=>x++c::gl c (y::r)
end L2
namespace L2
open PySem PySem.Spec PyProof.Rows
section
variable{prog:RH}{w:World}{A:Around}{E:RD}{s:Shared}
end
section
variable{P:RH}{w:World}{A:Around}{R:Result->Shared->Prop}{h0:Heap}{l c d:Addr}{a:RK}{b:List kC}
end
section
variable{P:RH}{w:World}{A:Around}{E:RD}{s:Shared}{l:Addr}{a:RK}{b:List kC}{Q:RD}
end
section
variable{X:Cx}
end
end L2
namespace L2
open PySem PySem.Spec PyProof.Rows PySem.W
abbrev dE(P:RH)(w:World)(d:Addr)(a:List (bL×V))(c:Nat):HO:=.ext λh=>((d==sysModules)=false/\a.length<=sizeLine)/\∃b,KV a b/\h.DictAt (aK P w) d b c
theorem y3:∀{a:List (bL×V)}{d:List (bL×Value)},KV a d->∀(i:Nat)(k:bL)(v:V),a[i]?=some (k,v)->∃u,d[i]?=some (k,u)/\aV v u|_,_,.nil,i,k,v,h=>by simp at h|_,_,.cons (b:=q) ⟨c,e⟩ t,i,k,v,h=>by cases i with|zero=>simp at h;subst h;obtain⟨f,u⟩:=q;have c:k=f:=c;subst c;exact⟨u,rfl,e⟩|succ i=>obtain⟨u,h1,h2⟩:=y3 t i k v (by simpa using h);exact⟨u,by simpa using h1,h2⟩
def Dn(h:(aK P w).is k u=true):aV (kV k) u:=by
 rcases nS.flat (P:=P) (w:=w) (h:=default) (k:=k) (v:=u) h with⟨i,t,rfl,rfl⟩|⟨z,t,rfl,rfl⟩
 ·exact⟨t,rfl⟩
 ·exact⟨t,rfl⟩
section
variable{X:Cx}{g:RE}{j:St}{H:Hp}{s:Shared}{d:Addr}{f:List (bL×V)}{i:Nat}
def aL.walk(I:aL X g j H s)(h:H d=some (.dK f)):∃i l,KV f l/\s.heap.DictAt (aK X.prog X.w) d l i/\(d==sysModules)=false/\aL X g j (az H d (dE X.prog X.w d f i)) s:=by obtain⟨r,p,l,kv,m⟩:=I.hok d _ h;obtain⟨i,n⟩:=m.dictAt;obtain⟨o,t,q,_⟩:=id n;refine⟨i,l,kv,n,p,?_⟩;have J:=I.write (h':=s.heap) (t':=s.toks) (x:=d) (e:=d) (o:=dE X.prog X.w d f i) (by rw[h];exact True.intro) (.inl rfl) (λ_ _ _ e=>e) ⟨o,q⟩ ⟨⟨⟨p,r⟩,l,kv,n⟩,⟨o,q⟩,λ_ _⟨a,l,b,c⟩k=>⟨a,l,b,c.at' k⟩⟩;exact J
def aL.thaw(I:aL X g j H s)(h:H d=some (dE X.prog X.w d f i)):aL X g j (az H d (.dK f)) s:=by obtain⟨⟨⟨a,b⟩,c,kv,k⟩,⟨o,l⟩,_⟩:=I.hok d _ h;have J:=I.write (h':=s.heap) (t':=s.toks) (x:=d) (e:=d) (o:=.dK f) (by rw[h];exact True.intro) (.inl rfl) (λ_ _ _ e=>e) ⟨o,l⟩ ⟨b,a,c,kv,k.dictOf⟩;exact J
end
def OX(P:RH)(w:World)(d:Addr)(a:List (bL×V))(b:Nat)(f:bL×V->V):It:=⟨λi H=>H d=some (dE P w d a b)/\i<a.length,λi H x c=>c=H/\a[i]?.map f=some x,λi H=>H d=some (dE P w d a b)/\a.length<=i⟩
def DZ{P:RH}{w:World}{K:RC}{L:Expr}(d g:Addr)(a:List (bL×V))(n:Nat):vK P w K L (OX P w d a n λp=>kV p.1) [g] g (λi h=>h.IsKeyIter g d i a.length n)where
 mem:=by simp
 obj:=λi h st b l=>by
  have e:b=g:=by simpa using l
  subst e;obtain⟨o,e,c,t⟩:=st;exact⟨o,e,λv z=>by rw[t]at z;cases z⟩
 keep:=λi h h'⟨o,e,r⟩k=>⟨o,k g (by simp) o e,r⟩
 item:=by intro X x y A hc i j s G H E I q st hg;subst x y A;obtain⟨hd,hi⟩:=hg;obtain⟨⟨_,B,kv,C⟩,_⟩:=I.hok d _ hd;have f:a.length=B.length:=Paired.length kv;obtain⟨D,f1,f2,f3,f4,f5⟩:=q g (by simp);have J:a[i]?=some a[i]:=hY hi;obtain⟨u,M,ru⟩:=y3 kv i a[i].1 a[i].2 J;have st:s.heap.IsKeyIter g d i a.length n:=st;rw[f]at st;refine wpAny_pyNext_dict_item st C M λF h' N m O=>?_;have I1:aL X j G H {s with heap:=h'}:=I.turned (t':=s.toks) (λb o l e=>(O.2 b l).trans e) D f1 f3 f4 f5;obtain⟨o,e,c,t⟩:=id m;rw[<-f]at m;exact⟨F,rfl,xF (s:={s with heap:=h'}) e c t (by decide) ⟨kV a[i].1,H,I1,Dn N,⟨rfl,by rw[J];rfl⟩,m,λb l=>(q b l).1⟩⟩
 done:=by intro X x y A hc i j s G H E I q st hg;subst x y A;obtain⟨hd,hi⟩:=hg;obtain⟨⟨_,B,kv,C⟩,_⟩:=I.hok d _ hd;have f:a.length=B.length:=Paired.length kv;obtain⟨D,f1,f2,f3,f4,f5⟩:=q g (by simp);have st:s.heap.IsKeyIter g d i a.length n:=st;rw[f]at st;exact wpAny_pyNext_dict_end (I.ok.hd hc) st C (o0 (by lia)) λh' R=>⟨rfl,I.turned (t':=s.toks) (λb o l e=>R b o l e) D f1 f3 f4 f5⟩
 self:=λ_ _ _ _ _ st h=>wpAny_pyIter_keyiter st h
def DX{P:RH}{w:World}{K:RC}{J:Expr}(d g:Addr)(a:List (bL×V))(n:Nat):vK P w K J (OX P w d a n λp=>p.2) [g] g (λi h=>h.IsValIter g d i a.length n)where
 mem:=by simp
 obj:=λi h st b l=>by
  have e:b=g:=by simpa using l
  subst e;obtain⟨o,e,c,t⟩:=st;exact⟨o,e,λv z=>by rw[t]at z;cases z⟩
 keep:=λi h h'⟨o,e,r⟩k=>⟨o,k g (by simp) o e,r⟩
 item:=by intro X x y A hc i j s F H E I q st hg;subst x y A;obtain⟨hd,hi⟩:=hg;obtain⟨⟨_,B,kv,C⟩,_⟩:=I.hok d _ hd;have f:a.length=B.length:=Paired.length kv;obtain⟨D,f1,f2,f3,f4,f5⟩:=q g (by simp);have G:a[i]?=some a[i]:=hY hi;obtain⟨u,L,ru⟩:=y3 kv i a[i].1 a[i].2 G;have st:s.heap.IsValIter g d i a.length n:=st;rw[f]at st;refine wpAny_pyNext_values_item st C L λh' m M=>?_;have I1:aL X j F H {s with heap:=h'}:=I.turned (t':=s.toks) (λb o l e=>(M.2 b l).trans e) D f1 f3 f4 f5;obtain⟨o,e,c,t⟩:=id m;rw[<-f]at m;exact⟨u,rfl,xF (s:={s with heap:=h'}) e c t (by decide) ⟨a[i].2,H,I1,ru,⟨rfl,by rw[G];rfl⟩,m,λb l=>(q b l).1⟩⟩
 done:=by intro X x y A hc i j s F H E I q st hg;subst x y A;obtain⟨hd,hi⟩:=hg;obtain⟨⟨_,B,kv,C⟩,_⟩:=I.hok d _ hd;have f:a.length=B.length:=Paired.length kv;obtain⟨D,f1,f2,f3,f4,f5⟩:=q g (by simp);have st:s.heap.IsValIter g d i a.length n:=st;rw[f]at st;exact wpAny_pyNext_values_end (I.ok.hd hc) st C (o0 (by lia)) λh' O=>⟨rfl,I.turned (t':=s.toks) (λb o l e=>O b o l e) D f1 f3 f4 f5⟩
 self:=λ_ _ _ _ _ st h=>wpAny_pyIter_valiter st h
section
variable{X:Cx}{P:RH}{w:World}{j l o e:Expr}{a i te:TE}{g c:Pos}
def Ou(P:RH)(w:World)(a:TE):TI:=λk H R=>a k H λx f=>∃d b,x=.ref d/\f d=some (.dK b)/\∀h,R (OX P w d b h λp=>kV p.1) (az f d (dE P w d b h))
def Jr(t:PE X l a)(u:X.prog=P:=by rfl)(y:X.w=w:=by rfl):PI X j l (Ou P w a):=by
 subst u y;intro f s z H R I h;refine cy (t f s z H _ I h) λv n⟨x,F,I1,A,d,k,e,hd,q⟩=>?_;subst e;obtain rfl:v=Value.ref d:=A;obtain⟨r,B,kv,C,D,p⟩:=I1.walk hd;have m:k.length=B.length:=Paired.length kv;refine wpAny_pyIter_dict D C ?_;refine⟨n.heap.objs.size,[n.heap.objs.size],_,_,_,rfl,p.kept (t':=n.toks) λb o e=>b_ _ e,DZ d _ k r,⟨_,g_ _ rfl,rfl,by rw[m];rfl⟩,λb E=>?_,q r⟩;have e:b=n.heap.objs.size:=by simpa using E
 subst e;exact p.fpOk (f_ _) (p.hok.fresh (f_ _))
def Op(P:RH)(w:World)(i:TE):TI:=λk H R=>i k H λx f=>∃d b,x=.ref d/\f d=some (.dK b)/\∀h,R (OX P w d b h λp=>p.2) (az f d (dE P w d b h))
def O7(P:RH)(w:World)(t:TE):TE:=λh H Q=>t h H λv f=>∃d b k,f d=some (dE P w d b k)/\Q v (az f d (.dK b))
def L6(h:PE X e te)(f:X.prog=P:=by rfl)(n:X.w=w:=by rfl):PE X e (O7 P w te):=by subst f n;intro b s k H Q I m;refine cy (h b s k H _ I m) λu t⟨v,x,I1,r,d,p,y,hd,q⟩=>?_;exact⟨v,_,I1.thaw hd,r,q⟩
def NP(P:RH)(w:World)(t:TS):TS:=λD k H=>t {D with nx:=λf h=>∃d b m,h d=some (dE P w d b m)/\D.nx f (az h d (.dK b))} k H
def BT{st:Stmt}{t:TS}(h:PS X st t)(n:X.prog=P:=by rfl)(p:X.w=w:=by rfl):PS X st (NP P w t):=by subst n p;intro b s m H D I r;refine wpAny_mono (h b s m H _ I r) (λf y z=>?_) λ_ _ z=>z;cases f with|next=>obtain⟨k,A,v,d,x,B,hd,q⟩:=z;exact⟨k,_,v.thaw hd,q⟩|brk=>exact z|cont=>exact z|ret u=>exact z
end
end L2
namespace L2
open PySem PySem.Spec PyProof.Rows PySem.W
section
variable{X:Cx}{P:RH}{w:World}{i l o e:Expr}{p g te ty:TE}{f c j:Pos}
def Jp(D:PE X o g)(E:X.prog=P:=by rfl)(G:X.w=w:=by rfl)(n:attributeBase o "values" X.env (eval o X.env)=eval o X.env:=by rfl)(r:(f.endLine==c.line)=true:=by rfl):PI X i (.Call (.Attribute o "values" f) [] [] c) (Op P w g):=by
 subst E G;intro k s J H R I h;refine wpAny_Call_method0_late n r (cy (D k s J H _ I h) λv a⟨x,T,I1,K,d,m,e,hd,q⟩=>?_);subst e;obtain rfl:v=Value.ref d:=K;obtain⟨B,C,kv,t,L,M⟩:=I1.walk hd;have u:m.length=C.length:=Paired.length kv;obtain⟨ob,U,y,N,_⟩:=id t;refine⟨"dict","dict.values",PySem.F.plainAttrs_dict,PySem.F.slot_dict_values,PySem.F.type_dict_values,t.dictOf.typeIs,?_,s_ rfl (PySem.evalArgs_none (M_ PySem.F.slot_dict_values t.dictOf.typeIs PySem.F.entry_dict_values (PySem.F.args_dict_values_1 _) (meets_dict_values (aK X.prog X.w) d L) ⟨⟨C,t.dictOf⟩,?_⟩))⟩
 ·intro b z;cases z;exact⟨ob,y,N.2.1⟩
 ·have O:(a.heap.push {cls:=.type "dict_values",data:=.fields #[.ref d]}).IsValuesView a.heap.objs.size d:=⟨_,g_ _ rfl,rfl,rfl⟩;show wpAny _ _ (pyIter (.ref a.heap.objs.size)) _ _ _;have A:=M.kept (h':=a.heap.push {cls:=.type "dict_values",data:=.fields #[.ref d]}) (t':=a.toks) λb o e=>b_ _ e;refine wpAny_pyIter_values (s:={a with heap:=a.heap.push {cls:=.type "dict_values",data:=.fields #[.ref d]}}) O (t.push _) ?_;refine⟨_,[(a.heap.push {cls:=.type "dict_values",data:=.fields #[.ref d]}).objs.size],_,_,_,rfl,A.kept (t':=a.toks) λb o e=>b_ _ e,DX d _ m B,⟨_,g_ _ rfl,rfl,by rw[u];rfl⟩,λb S=>?_,q B⟩;have e:b=(a.heap.push {cls:=.type "dict_values",data:=.fields #[.ref d]}).objs.size:=by simpa using S
  subst e;exact A.fpOk (f_ _) (A.hok.fresh (f_ _))
def NJ(K:RC)(a:Addr)(ty:TE):TE:=λd H Q=>ty d H λy b=>∃x r,y=.str x/\PySem.W.nsIn K a x=some r/\((r=none/\Q .non b)\/∃u v,r=some u/\aV v u/\Q v b)
def Jt(K:RC)(L:X.K=K)(hd:KG K X.w.params a)(hg:Gl X x)(hm:X.mg x=some (.ref a))(M:PE X e ty)(m:M1 X (.Name x d) "get" f e c)(B:(x==("__debug__":Str))=false:=by decide):PE X (.Call (.Attribute (.Name x d) "get" f) [e] [] c) (NJ K a ty):=by
 subst L;intro k s E H Q I h;obtain⟨lo,es,n,A,G⟩:=hd;have hn:PE X (.Name x d) (tC (.ref a)):=Dc hg hm rfl B;refine P2 m.base m.few m.line PySem.F.plainAttrs_dict PySem.F.slot_dict_get PySem.F.type_dict_get (cy (hn k s E H (λv N=>v=.ref a/\N=H) I ⟨rfl,rfl⟩) λu O⟨z,R,I1,S,T,U⟩=>?_);subst T U;obtain rfl:u=Value.ref a:=S;have C:=PySem.W.mapOf_K (prog:=X.prog) (w:=X.w) I1.kIn A G;refine⟨C.typeIs,λb z=>by cases z;exact⟨_,I1.kIn _ _ A,rfl⟩,?_⟩;rw[m.trees];refine s_ rfl (yl (sm (cy (M k O E R _ I1 h) λiv s2⟨y,J,D,V,Y,r,Z,hu,q2⟩=>z3 ?_)));subst Z;obtain⟨tk,rfl⟩:=V;have t:=PySem.W.mapOf_K (prog:=X.prog) (w:=X.w) D.kIn A G;refine M_ PySem.F.slot_dict_get t.typeIs PySem.F.entry_dict_get (PySem.F.args_dict_get_2 _ _) (meets_dict_get (strKind X.prog X.w) a (PySem.strKind_is X.prog X.w Y tk) lo) ⟨_,t,?_⟩;rw[PySem.W.find_K A hu];rcases q2 with⟨rfl,q⟩|⟨u',v',rfl,rv,q⟩
 ·exact⟨.non,J,D.tok _,rfl,q⟩
 ·exact⟨v',J,D.tok _,rv,q⟩
end
end L2
namespace L2
open PySem PySem.W PyProof.Rows
section
variable{M:Model}{A:Around}{E:RD}
def Et{C D N J:Addr}{nm q l L:Str}{bs n o a:RG}{hd P sub R p r u b v c}{dd w:Option Addr}{S T W X Z x y z B F:Option Value}{id G:String}{s:Shared}{e:Addr}{H:Obj}{Q:Bool->Shared->Prop}(hC:s.heap.get? C=some (excClassObj nm q C N bs o hd P sub R p dd S T W X Z id))(I:s.heap.get? D=some (excClassObj l L D J n a r u b v c w x y z B F G))(he:s.heap.get? e=some H)(i:H.cls=.ref C)(hb:a.contains (.type "BaseException")=true)(j:Q ((Value.ref C::o).contains (.ref D)) s):wpAny M A (excMatches (.ref e) (.ref D)) Q E s:=by
 obtain⟨h,g,d,t,os⟩:=s;have k:(Value.ref D::a).contains (.type "BaseException")=true:=by rw[List.contains_cons,hb,Bool.or_true]
 have f:=tc_notTuple;unfold excMatches
 repeat(first|(with_reducible refine wpAny_loadPart_at he ?_;rw[i])|with_reducible refine wpAny_loadPart_at I ?_|(with_reducible refine wpAny_isSubtype_exc I ?_;rw[k])|(with_reducible refine wpAny_isSubtype_exc hC ?_)|wp_step)
 cases hc:(Value.ref C::o).contains (Value.ref D)with|true=>rw[hc]at j;rw[i_ rfl];exact e_ (e_ (e_ j))|false=>rw[hc]at j;rw[ir lm];exact e_ (e_ (e_ j))
end
def MX(K:RC)(C:Addr)(a:RG):Prop:=∃b dd cd sl,K.lookup C=some ⟨b,dd,.cls cd,sl⟩/\cd.mro=.ref C::a
def MX.is{K:RC}{C:Addr}{c b:RG}{h:Heap}{o:Obj}{a:ClassData}(m:MX K C c)(kin:K.In h)(e:h.get? C=some o)(hd:o.data=.cls a)(hm:a.mro=.ref C::b):b=c:=by obtain⟨f,dd,cd,sl,l,r⟩:=m;have d:=kin _ _ l;rw[e]at d;cases d;have hd:Data.cls cd=Data.cls a:=hd;cases hd;rw[hm]at r;exact(List.cons.inj r).2
def Lb(K:RC)(C D:Addr):Prop:=∃a,MX K C a/\(Value.ref C::a).contains (.ref D)=false
def NC(f:XK->TS)(g:Addr)(a:TS)(h:Addr)(b:TS):TS:=λD c H=>f (λd _ e=>(d=.ref g/\a D c e)\/(d=.ref h/\b D c e)) D c H
def Jm{X:Cx}{st b1 b2:Stmt}{c d:List Stmt}{tb:XK->TS}{x y:TS}{S W:Addr}{Z x2:Str}{aa ad al an a8:Pos}(ap:X.stack=X.env::X.outer)(hf:X.env.frame=some X.env.locals)(ba:nI X.K S)(bb:Gl X Z)(bc:X.mg Z=some (.ref S))(bd:nI X.K W)(bi:Gl X x2)(bt:X.mg x2=some (.ref W))(mr:Lb X.K W S)(hb:∀(E:XK)(a:RE)(p:St)(Xe:RD),qf (yd X.prog X.w) (X.wish Xe) E a p->OB (X.wish Xe) a p st (tb E))(bu:∀g,xc (X.inExc g) (b1::c) x)(bz:∀g,xc (X.inExc g) (b2::d) y)(as:(Z==("__debug__":Str))=false:=by decide)(a2:(x2==("__debug__":Str))=false:=by decide):PS X (.Try [st] [.ExceptHandler (some (.Name Z aa)) none (b1::c) ad,.ExceptHandler (some (.Name x2 al)) none (b2::d) an] [] [] a8) (NC tb S x W y):=by
 intro a s p H D I h;obtain⟨bK,mr,bN⟩:=mr;refine wpAny_Try_except ?_;have hp:qf (yd X.prog X.w) (X.wish λe s₁=>wpAny (model X.prog X.w) X.A (noteFrame e X.env) (λ_ U=>wpAny (model X.prog X.w) X.A (setFlight e none) (λ_ V=>wpAny (model X.prog X.w) X.A (handleBy e X.env [.ExceptHandler (some (.Name Z aa)) none (b1::c) ad,.ExceptHandler (some (.Name x2 al)) none (b2::d) an]) (SP X a D) X.xe V) X.xe U) X.xe s₁) (λC' _ C=>(C'=.ref S/\x D p C)\/(C'=.ref W/\y D p C)) a p:=by
  rintro H1 s1 e G I1⟨g,C',B,t,C,rfl,os,bare,un,hok,Y,a3,i,j⟩;have I1:=I1.unwish;have un:Un (kE X.stack) [] H1 C s1.heap G.heap:=un;have Y:Heap.FlyingW B X.stack g C' (.ref t) G.heap:=Y;have i:∀b o,s1.heap.get? b=some o->b∉kE X.stack->∃u,B.get? b=some u:=i;have b7:∀b∈kE X.stack,H1 b=none/\∀o,s1.heap.get? b=some o->∀vs,o.data≠.fields vs:=λb hb=>by refine⟨I1.stkFree b hb,λo e=>?_⟩;obtain⟨_,o',a5,hd⟩:=I1.stack.mem hb;rw[e]at a5;cases a5;exact hd
  have l:∀h5,B.StaysIn h5->G.heap.UpToSlots h5->aL X a p C {G with heap:=h5}:=λh5 k up=>I1.call' (s':={G with heap:=h5}) (ch:=[]) os (un.flown i Y.1 k up b7) (hok.flown a3 Y.1 k) bare λb z=>absurd z (by simp)
  show wpAny (model X.prog X.w) X.A (noteFrame (.ref g) X.env) _ X.xe G;have a6:=Y;rw[ap]at a6;refine wpAny_looks_onW (outer:=X.outer) (by rw[I.ok.frames,ap]) hf a6 λh4 J L=>?_;refine wpAny_landsW J λh5 r M=>?_;have R:=l h5 r.1 (L.trans M);obtain⟨bm,N,nm,q,bs,hd,sn,sub,ab,cE,dd,k0,k1,k2,k3,k5,mN,a7,hN,c0,T⟩:=ba.at I.mod.kin;obtain⟨b8,N',c1,q',c2,c3,c4,b9,da,cc,dc,di,dt,dv,dK,dT,dV,m,d1,ci,T'⟩:=bd.at I.mod.kin;obtain⟨ob,O,n⟩:=r.there;refine wpAny_handleBy_cons (codeAny_handlers_test (m9 (R.inExc g) bb bc ?_ as)) (by intro z;cases z);rcases j with⟨rfl,j⟩|⟨rfl,j⟩
  ·refine wpAny_excMatches_sub_self (R.bk _ _ a7) O n (T.hasType PySem.F.excBase_ValueError.hasBase) (codeAny_handlers_suite ?_);refine lands_againW r λh6 P Q=>?_;have I6:=l h6 P.1 ((L.trans M).trans Q);exact wpAny_mono (bu g a _ p C D (I6.inExc g) j) (λf s2 z=>z.outExc I.ok) λ_ _ z=>z.elim
  ·refine Et (R.bk _ _ m) (R.bk _ _ a7) O n (T.hasType PySem.F.excBase_ValueError.hasBase) ?_;obtain rfl:b8=bK:=mr.is I.mod.kin m rfl rfl;rw[bN];refine wpAny_handleBy_cons (codeAny_handlers_test (m9 (R.inExc g) bi bt ?_ a2)) (by intro z;cases z);refine wpAny_excMatches_sub_self (R.bk _ _ m) O n (T'.hasType PySem.F.excBase_ValueError.hasBase) (codeAny_handlers_suite ?_);refine lands_againW r λh6 P Q=>?_;have I6:=l h6 P.1 ((L.trans M).trans Q);exact wpAny_mono (bz g a _ p C D (I6.inExc g) j) (λf s2 z=>z.outExc I.ok) λ_ _ z=>z.elim
 have b:=hb _ a p _ hp s H D (I.wish _) h;refine Rj (wpAny_mono b (λf s1 z=>?_) λ_ _ z=>z);have z:=z.unwish;cases f with|next=>exact Qb (Qb z)|ret v=>exact z|brk=>exact z|cont=>exact z
end L2
namespace L2
open PySem PySem.Spec PyProof.Rows PySem.W
section
variable{P:RH}{w:World}{A:Around}{E:RD}{s:Shared}
def DQ{z h d j n t l:Addr}{L M:Nat}{Z ys:RK}{x y a b:Value}{Q:RD}(D:ZipApart z h d j n t l)(B:IsZip s.heap z h d .none)(p1:IsPair s.heap h (.ref j) (.ref n))(p2:IsPair s.heap d a b)(i1:s.heap.IsTupleIter j t L)(i2:s.heap.IsTupleIter n l M)(tt:s.heap.IsTuple t Z)(ll:s.heap.IsTuple l ys)(hx:Z[L]?=some x)(hy:ys[M]?=some y)(q:∀g,IsZip g z h d (rawInt s.heap.objs.size)->IsPair g d x y->g.IsTupleIter j t (L+1)->g.IsTupleIter n l (M+1)->IsPair g s.heap.objs.size x y->g.objs.size=s.heap.objs.size+1->Bu z d j n s.heap g->Q (.ref s.heap.objs.size) {s with heap:=g}):wpAny (model P w) A (Builtin.«zip.__next__» ⟨[.ref z],[]⟩) (λfin s'=>∃v,fin=.done (.ret v)/\Q v s') E s:=by
 refine(show wpAny _ _ (field (.ref z) 2>>=_) _ _ _ from a_ (ry B rfl (x:=.bool false) rfl ?_));refine(show wpAny _ _ (field (.ref z) 3>>=_) _ _ _ from a_ (ry B rfl (x:=.ref h) rfl (a_ (r4 p1 rfl ?_))));refine(show wpAny _ _ (Builtin.SmallTypes.ownedTupleIsFree (.ref z)>>=_) _ _ _ from a_ ?_);unfold Builtin.SmallTypes.ownedTupleIsFree;refine a_ (ry B rfl (x:=.none) rfl (e_ ?_));simp only[QZ];refine a_ (z4 (a_ (ry B rfl (x:=.ref d) rfl (a_ (pw B (by simp) λg1 O k=>?_)))))
 replace O:IsZip g1 z h d .ellipsis:=O
 refine a_ ?_;simp only[Rm,Rx,Qd,List.forIn_nil];refine a_ (a_ (Qr (show wpAny _ _ (Builtin.SmallTypes.nextOf (.ref j)>>=_) _ _ _ from a_ (oZ (i1.extBut k.extBut D.i1z) (tt.extBut k.extBut D.l1z) hx λg2 R r=>e_ ?_))));have C:IsPair g2 d a b:=r.extBut _ _ D.TOi1 (k.extBut _ _ D.TOz p2);refine a_ (r4 C rfl (a_ (P9 C λg3 m u=>?_)))
 replace m:IsPair g3 d x b:=m
 refine a_ (QR (e_ (a_ (a_ (Qr ?_)))));refine(show wpAny _ _ (Builtin.SmallTypes.nextOf (.ref n)>>=_) _ _ _ from a_ (oZ (((i2.extBut k.extBut D.i2z).extBut r.extBut D.i12.symm).extBut u.extBut D.TOi2.symm) (((ll.extBut k.extBut D.l2z).extBut r.extBut D.l2i1).extBut u.extBut D.l2TO) hy λg4 S F=>e_ ?_))
 have G:IsPair g4 d x b:=F.extBut _ _ D.TOi2 m;refine a_ (r4 G rfl (a_ (P9 G λf i H=>?_)))
 replace i:IsPair f d x y:=i
 refine a_ (QR (e_ (e_ (a_ (r4 i rfl (a_ (wpAny_newTuple ?_)))))));have sz:f.objs.size=s.heap.objs.size:=by rw[H.1,F.1,u.1,r.1,k.1]
 have z5:IsZip f z h d .ellipsis:=H.extBut _ _ D.TOz.symm (F.extBut _ _ D.i2z.symm (u.extBut _ _ D.TOz.symm (r.extBut _ _ D.i1z.symm O)));have k5:Bu z d j n s.heap f:=λc o p K T U e=>H.extBut _ _ K (F.extBut _ _ U (u.extBut _ _ K (r.extBut _ _ T (k.extBut _ _ p e))));have V:f.IsTupleIter j t (L+1):=((R.extBut u.extBut D.TOi1.symm).extBut F.extBut D.i12).extBut H.extBut D.TOi1.symm;have W:f.IsTupleIter n l (M+1):=S.extBut H.extBut D.TOi2.symm;have zl:z<f.objs.size:=iq z5;refine(show wpAny _ _ (Builtin.SmallTypes.ownedTupleHandOut (.ref z) (.ref f.objs.size)>>=_) _ _ _ from a_ ?_);unfold Builtin.SmallTypes.ownedTupleHandOut;have z6:IsZip (f.push {cls:=.type "tuple",data:=.seq #[x,y]}) z h d .ellipsis:=b_ _ z5;refine a_ (pw z6 (by simp) λg7 X Y=>?_)
 replace X:IsZip g7 z h d (rawInt f.objs.size):=X
 refine pw X (by simp) λI N s8=>?_
 replace N:IsZip I z h d (rawInt f.objs.size):=N
 have up:∀c ob,c≠z->f.get? c=some ob->I.get? c=some ob:=λc ob p e=>s8.extBut _ _ p (Y.extBut _ _ p (b_ _ e));have pn:IsPair I f.objs.size x y:=s8.extBut _ _ (ot zl) (Y.extBut _ _ (ot zl) (g_ _ rfl));have J:I.objs.size=f.objs.size+1:=by rw[s8.1,Y.1,n_]
 rw[sz]at N pn J;refine e_ ⟨_,rfl,(show Q (.ref f.objs.size) _ from ?_)⟩;rw[sz];exact q I N (up _ _ D.TOz i) (V.at λob e=>up _ ob D.i1z e) (W.at λob e=>up _ ob D.i2z e) pn J λc ob p K T U e=>up c ob p (k5 c ob p K T U e)
def DR(D:ZipApart z f c d e t l)(h:IsZip s.heap z f c .none)(p1:IsPair s.heap f (.ref d) (.ref e))(p2:IsPair s.heap c a b)(n:s.heap.IsTupleIter d t i)(o:s.heap.IsTupleIter e l j)(p:s.heap.IsTuple t r)(u:s.heap.IsTuple l v)(B:r[i]?=some x)(C:v[j]?=some y)(q:∀g,IsZip g z f c (rawInt s.heap.objs.size)->IsPair g c x y->g.IsTupleIter d t (i+1)->g.IsTupleIter e l (j+1)->IsPair g s.heap.objs.size x y->g.objs.size=s.heap.objs.size+1->Bu z c d e s.heap g->Q (some (.ref s.heap.objs.size)) {s with heap:=g}):wpAny (model P w) A (pyNext (.ref z)) Q E s:=by have ty:s.TypeIs (.ref z) "zip":=⟨_,h,rfl⟩;unfold pyNext;refine a_ (P7 (q4 (name:=Str.ofString "__next__") ty PX (qq PX ty Rq (DQ D h p1 p2 n o p u B C λg a1 m G a4 H I J=>?_) (Rf _))));exact e_ (q g a1 m G a4 H I J)
abbrev ON(h:Heap)(t:Addr):Heap:=h.push {cls:=.type "tuple_iterator",data:=.fields #[.ref t,.int 0 0]}
abbrev OM(h:Heap)(t l:Addr):Heap:=(ON h t).push {cls:=.type "tuple_iterator",data:=.fields #[.ref l,.int 0 0]}
abbrev OL(h:Heap)(t l:Addr):Heap:=(OM h t l).push {cls:=.type "tuple",data:=.seq #[.ref h.objs.size,.ref (ON h t).objs.size]}
abbrev OK(h:Heap)(t l:Addr):Heap:=(OL h t l).push {cls:=.type "tuple",data:=.seq #[.none,.none]}
abbrev M6(h:Heap)(t l:Addr):Heap:=(OK h t l).push {cls:=.type "zip",data:=.fields #[.none,.bool false,.bool false,.ref (OM h t l).objs.size,.ref (OL h t l).objs.size]}
def B9(t l:Addr)(a b:RK):Meets (Builtin.«zip.__new__» ⟨[.type "zip",.ref t,.ref l],[]⟩) (λ_ R s=>s.heap.IsTuple t a/\s.heap.IsTuple l b/\R (.ok (.ret (.ref (OK s.heap t l).objs.size))) {s with heap:=M6 s.heap t l}):=.of_wp λprog w A R s h=>by
  obtain⟨c,g,d,tk,os⟩:=s;obtain⟨h1,h2,h⟩:=h;have e:=sub_zip;have f:Heap.IsTuple (Shared.heap ⟨c,g,d,tk,os⟩) t a:=h1;have i:Heap.IsTuple (Shared.heap ⟨c.push {cls:=.type "tuple_iterator",data:=.fields #[.ref t,.int 0 0]},g,d,tk,os⟩) l b:=Heap.IsTuple.push h2 _
  wp_walk using C2 f,C2 i
  exact⟨_,rfl,h⟩
def EZ(h1:s.heap.IsTuple t n)(h2:s.heap.IsTuple l p)(q:∀g,IsZip g (s.heap.objs.size+4) (s.heap.objs.size+2) (s.heap.objs.size+3) .none->IsPair g (s.heap.objs.size+2) (.ref s.heap.objs.size) (.ref (s.heap.objs.size+1))->IsPair g (s.heap.objs.size+3) .none .none->g.IsTupleIter s.heap.objs.size t 0->g.IsTupleIter (s.heap.objs.size+1) l 0->(∀c o,s.heap.get? c=some o->g.get? c=some o)->Q (.ref (s.heap.objs.size+4)) {s with heap:=g}):wpAny (model P w) A (call (.type "zip") [.ref t,.ref l]) Q E s:=by
 refine callType_new F.called_zip (by decide) (F.typeCall_zip_2 _ _) (F.newCall_zip_2 _ _) (λob=>F.args_object_init_3 ob _ _) F.entry_zip_new (B9 t l n p) ⟨h1,h2,?_⟩;have a:(ON s.heap t).objs.size=s.heap.objs.size+1:=n_ ..;have b:(OM s.heap t l).objs.size=s.heap.objs.size+2:=by rw[n_,a]
 have e:(OL s.heap t l).objs.size=s.heap.objs.size+3:=by rw[n_,b]
 have h:(OK s.heap t l).objs.size=s.heap.objs.size+4:=by rw[n_,e]
 have f:(M6 s.heap t l).get? (OK s.heap t l).objs.size=some _:=g_ _ rfl;have i:(M6 s.heap t l).get? (OL s.heap t l).objs.size=some _:=b_ _ (g_ _ rfl);have j:(M6 s.heap t l).get? (OM s.heap t l).objs.size=some _:=b_ _ (b_ _ (g_ _ rfl));have k:(M6 s.heap t l).get? (ON s.heap t).objs.size=some _:=b_ _ (b_ _ (b_ _ (g_ _ rfl)));have m:(M6 s.heap t l).get? s.heap.objs.size=some _:=b_ _ (b_ _ (b_ _ (b_ _ (g_ _ rfl))));show _/\_;rw[b,e,h]at f;rw[a,b]at j;rw[e]at i;rw[a]at k;rw[h];exact⟨⟨_,f,rfl⟩,q _ f j i ⟨_,m,rfl,rfl⟩ ⟨_,k,rfl,rfl⟩ λc ob d=>b_ _ (b_ _ (b_ _ (b_ _ (b_ _ d))))⟩
end
def K6(K:RC)(t l:Addr):It:=⟨λi H=>∃a b x y,aT K H t a/\aT K H l b/\a[i]?=some x/\b[i]?=some y,λi H v c=>∃T x y,H T=none/\v=.ref T/\c=az H T (.tup [x,y])/\∀a b,aT K H t a->aT K H l b->a[i]?=some x/\b[i]?=some y,λi H=>∃a,aT K H t a/\a.length<=i⟩
def DW{P:RH}{w:World}{K:RC}{J:RJ}{x1:Nat}{R:Pos}{z j n q r t l:Addr}(D:ZipApart z j n q r t l):vK P w K (.Tuple J x1 R) (K6 K t l) [z,j,n,q,r] z (λi h=>IsZip h z j n .none/\IsPair h j (.ref q) (.ref r)/\(∃a b,IsPair h n a b)/\h.IsTupleIter q t i/\h.IsTupleIter r l i)where
 mem:=by simp
 obj:=λi h st b d=>by
  obtain⟨a1,m,⟨_,_,A⟩,⟨al,a4,_,d4⟩,⟨an,C,_,d5⟩⟩:=st;simp only[pv,oe,w_]at d;rcases d with rfl|rfl|rfl|rfl|rfl
  ·exact⟨_,a1,λv e=>by cases e⟩
  ·exact⟨_,m,λv e=>by cases e⟩
  ·exact⟨_,A,λv e=>by cases e⟩
  ·exact⟨_,a4,λv e=>by rw[d4]at e;cases e⟩
  ·exact⟨_,C,λv e=>by rw[d5]at e;cases e⟩
 keep:=λi h h' st k=>by obtain⟨a1,m,⟨a,b,A⟩,a4,C⟩:=st;exact⟨k z (by simp) _ a1,k j (by simp) _ m,⟨a,b,k n (by simp) _ A⟩,a4.at λob e=>k q (by simp) ob e,C.at λob e=>k r (by simp) ob e⟩
 item:=by
  intro X S T U hc i B s σ H E I Q st hg;subst S T U;obtain⟨xs,ys,x,y,L,M,V,hy⟩:=hg;obtain⟨F,Y,p,hz⟩:=I.tuple L;obtain⟨N,Z,p2,ap⟩:=I.tuple M;obtain⟨u,hu,ru⟩:=Y.get V;obtain⟨u2,aa,ad⟩:=Z.get hy;obtain⟨a1,m,⟨a,b,A⟩,a4,C⟩:=st;refine DR D a1 m A a4 C (show s.heap.IsTuple t F.toArray from p) (show s.heap.IsTuple l N.toArray from p2) (x:=u) (y:=u2) (by simpa using hu) (by simpa using aa) λg b1 b2 b3 b4 b5 b6 off=>?_;refine⟨_,rfl,wpAny_letOwnedTupleGo_zip b1 λg' c1 G=>?_⟩;have lt:∀c∈[z,j,n,q,r],c≠s.heap.objs.size:=λc O e=>by
   have hs:∃ob,s.heap.get? c=some ob:=by
    simp only[pv,oe,w_]at O;rcases O with rfl|rfl|rfl|rfl|rfl
    ·exact⟨_,a1⟩
    ·exact⟨_,m⟩
    ·exact⟨_,A⟩
    ·obtain⟨ob,e,_⟩:=a4;exact⟨ob,e⟩
    ·obtain⟨ob,e,_⟩:=C;exact⟨ob,e⟩
   obtain⟨ob,h⟩:=hs;rw[e]at h;exact absurd (iq h) (rm _)
  have fresh:H s.heap.objs.size=none:=I.hok.fresh (f_ _);have I1:aL X B σ (az H s.heap.objs.size (.tup [x,y])) {s with heap:=s.heap.push {cls:=.type "tuple",data:=.seq #[u,u2]},toks:=s.toks}:=I.laid (λb o e=>b_ _ e) (f_ _) ⟨by rw[j1];simp,[u,u2],.cons ru (.cons ad .nil),⟨_,g_ _ rfl,rfl,_,rfl⟩⟩
  have I2:=gN (h':=g') (t':=s.toks) (ch:=[z,j,n,q,r]) I1 (λb o d e=>?_) (λb d=>?_)
  ·refine⟨.ref s.heap.objs.size,_,I2,rfl,⟨_,x,y,fresh,rfl,rfl,λas a6 h1 h2=>⟨by rw[I.tuple_inj h1 L];exact V,by rw[I.tuple_inj h2 M];exact hy⟩⟩,⟨c1,G.extBut _ _ D.TIz (off _ _ D.TIz D.TITO D.TIi1 D.TIi2 m),⟨_,_,G.extBut _ _ D.TOz b2⟩,b3.extBut G.extBut D.i1z,b4.extBut G.extBut D.i2z⟩,λb d=>?_⟩;rw[am (lt b d)];exact(Q b d).1
  ·have f:b≠z/\b≠j/\b≠n/\b≠q/\b≠r:=by simpa using d
   by_cases eb:b=s.heap.objs.size
   ·subst eb;rw[g_ _ rfl]at e;cases e;exact G.extBut _ _ f.1 b5
   ·have e':s.heap.get? b=some o:=by
     rcases PF e with⟨z2,_⟩|e2
     ·exact absurd z2 eb
     ·exact e2
    exact G.extBut _ _ f.1 (off b o f.1 f.2.2.1 f.2.2.2.1 f.2.2.2.2 e')
  ·obtain⟨f0,f1⟩:=Q b d;exact⟨by rw[am (lt b d)];exact f0,f1⟩
 done:=by
  intro X S T U hc i B s σ H E I Q st hg;subst S T U;obtain⟨xs,hq,V⟩:=hg;obtain⟨F,Y,p,hz⟩:=I.tuple hq;have hl:=Y.length;obtain⟨a1,m,⟨a,b,A⟩,a4,C⟩:=st;refine zM (I.ok.hd hc) D a1 m A a4 (show s.heap.IsTuple t F.toArray from p) (by simp;lia) λg off=>⟨rfl,gN (t':=s.toks) (ch:=[z,j,n,q,r]) I (λb o d e=>?_) Q⟩;have f:b≠z/\b≠j/\b≠n/\b≠q/\b≠r:=by simpa using d
  exact off b o f.1 f.2.2.1 f.2.2.2.1 f.2.2.2.2 e
 self:=λ_ _ _ _ _ st h=>Qv st.1 h
section
variable{X:Cx}{c:Expr}
def Oo(K:RC)(d:TA):TI:=λe H R=>d e H λf a=>∃t l g b,f=[.ref t,.ref l]/\aT K a t g/\((aO K a l b/\R (K5 K t l) a)\/(aT K a l b/\R (K6 K t l) a))
def Jo(K:RC)(S:X.K=K){n:RJ}{T:Nat}{o:Pos}{a b:Expr}{P:TA}{p r:Pos}(hg:Gl X "zip")(hm:X.mg "zip"=none)(Z:PA X [a,b] P)(hs:starEach [a,b] X.env=[(false,eval a X.env),(false,eval b X.env)]:=by rfl)(w:starEach [b] X.env=[(false,eval b X.env)]:=by rfl):PI X (.Tuple n T o) (.Call (.Name "zip" p) [a,b] [] r) (Oo K P):=by
 subst S;intro i s U H R I h;refine wr (lO I hg hm HP (z_ (cy (Z r i s U H _ I h) λus d⟨vs,z,I1,V,A⟩=>?_) (by rw[hs,w]) (by rw[w];rfl)));obtain⟨t,l,xs,ys,e,B,A⟩:=A;subst e;obtain⟨u,v,rfl,rt,Y⟩:=xi V;obtain rfl:u=Value.ref t:=rt;obtain rfl:v=Value.ref l:=Y;obtain⟨m,rv,pl,hz⟩:=I1.tuple B;obtain⟨o1,O,_⟩:=id pl;have fp:∀b∈[d.heap.objs.size+4,d.heap.objs.size+2,d.heap.objs.size+3,d.heap.objs.size,d.heap.objs.size+1],vP X i z b:=λb Q=>by
  have x:d.heap.objs.size<=b:=by
   simp only[pv,oe,w_]at Q;rcases Q with rfl|rfl|rfl|rfl|rfl
   ·exact K_ _ _
   ·exact K_ _ _
   ·exact K_ _ _
   ·exact f_ _
   ·exact K_ _ _
  exact I1.fpOk x (I1.hok.fresh x)
 rcases A with⟨k,q⟩|⟨k,q⟩
 ·obtain⟨j,C,f,E⟩:=I1.list k;obtain⟨o2,n2,F,_⟩:=id f;have D:=ktu_apart d.heap.objs.size t l (iq O) (iq F);refine E2 (show d.heap.IsTuple t m.toArray from pl) f.isList λg y G J L M N=>?_;exact Qv y ⟨_,[d.heap.objs.size+4,d.heap.objs.size+2,d.heap.objs.size+3,d.heap.objs.size,d.heap.objs.size+1],_,_,z,rfl,I1.kept (t':=d.toks) N,Fs D,⟨y,G,⟨_,_,J⟩,L,M⟩,fp,q⟩
 ·obtain⟨j,C,f,E⟩:=I1.tuple k;obtain⟨o2,F,_⟩:=id f;have D:=ktu_apart d.heap.objs.size t l (iq O) (iq F);refine EZ (show d.heap.IsTuple t m.toArray from pl) (show d.heap.IsTuple l j.toArray from f) λg y G J L M N=>?_;exact Qv y ⟨_,[d.heap.objs.size+4,d.heap.objs.size+2,d.heap.objs.size+3,d.heap.objs.size,d.heap.objs.size+1],_,_,z,rfl,I1.kept (t':=d.toks) N,DW D,⟨y,G,⟨_,_,J⟩,L,M⟩,fp,q⟩
def EX{K:RC}{a l:Addr}{h o:List V}{g:TG}{ds:RL}{k:Nat}{tc:TT}{te:TE}{z:St}{A:Hp}{D:Addr}{F:Hp->Prop}(Pv:Nat->List V->Hp->Prop)(h0:Pv 0 [] (az A D (.lst [])))(C:h.length=o.length)(E:∀i d f,i<=h.length->Pv i d f->aT K f a h/\aT K f l o)(G:∀i x y d f T,h[i]?=some x->o[i]?=some y->Pv i d f->f T=none->g (.ref T) (fX ds k z) (az f T (.tup [x,y])) λj u=>tc j u λb r=>if b=true then te j r λy s=>s D=some (.lst d)/\d.length<sizeLine/\∃n,n<h.length-i/\n=h.length-(i+1)/\i+1<=h.length/\Pv (i+1) (d++[y]) (az s D (.lst (d++[y])))else∃n,n<h.length-i/\n=h.length-(i+1)/\i+1<=h.length/\Pv (i+1) d r)(hd:∀d f,Pv h.length d f->F f):∃W:Nat->Nat->List V->Hp->Prop,(∃m,W 0 m [] (az A D (.lst [])))/\∀i m d f,W i m d f->((K6 K a l).stop i f/\F f)\/((K6 K a l).go i f/\∀x v,(K6 K a l).yld i f x v->g x (fX ds k z) v λj u=>tc j u λb r=>if b=true then te j r λy s=>s D=some (.lst d)/\d.length<sizeLine/\∃n,n<m/\W (i+1) n (d++[y]) (az s D (.lst (d++[y])))else∃n,n<m/\W (i+1) n d r):=by
 refine⟨λi m d f=>m=h.length-i/\i<=h.length/\Pv i d f,⟨_,rfl,m_ _,h0⟩,?_⟩;rintro i m d f⟨rfl,hi,p⟩;obtain⟨q,B⟩:=E i d f hi p
 by_cases w:i<h.length
 ·have t:i<o.length:=by lia
  refine .inr ⟨⟨h,o,h[i],o[i],q,B,by simp[w],by simp[t]⟩,λx v y=>?_⟩;obtain⟨T,H,I,J,e,L,y⟩:=y;subst e L;obtain⟨M,N⟩:=y h o q B;exact G i H I d _ T M N p J
 ·have e:i=h.length:=by lia
  subst e;exact .inl ⟨⟨h,q,f_ _⟩,hd d f p⟩
end
end L2
namespace L2
open PySem PySem.Spec PyProof.Rows PySem.W
def Hv(hh:A.handled=none)(b t:Addr)(ne:t≠b)(a:RK):Draws P w A b [b,t] a.size (λi v=>a[i]?=some v) (λi h=>h.IsTupleIter b t i/\h.IsTuple t a)where
 live:=λ_ _ st=>let⟨o,e,_⟩:=st.1;⟨o,e⟩
 frame:=λ_ _ _ st k=>⟨st.1.at λo e=>k b (by simp) o e,st.2.at λo e=>k t (by simp) o e⟩
 item:=λi s Q E hi st q=>oZ st.1 st.2 (v:=a[i]) (by simp[hi]) λg d c=>q _ g s.toks (by simp[hi]) ⟨d,st.2.extBut c.extBut ne⟩ c
 done:=λs Q E st q=>zQ hh st.1 st.2 (by simp) q
def AM(t:Addr)(a:RK)(n:Nat)(f:Option Addr)(sl:Array (Option Value)):Meets (Builtin.«enumerate.__new__» ⟨[.type "enumerate",.ref t],[]⟩) (λ_ R s=>s.heap.get? t=some {cls:=.type "tuple",dict:=f,data:=.seq a n,slots:=sl}/\R (.ok (.ret (.ref (Ix s.heap t).objs.size))) {s with heap:=(Ix s.heap t).push {cls:=.type "enumerate",data:=.fields #[.none,.bool false,.ref s.heap.objs.size,rawInt 0,.none,.none]}}):=.of_wp λprog w A R s h=>by
  obtain⟨i,g,d,tk,os⟩:=s;obtain⟨b,h⟩:=h;have f1:=sub_enumerate;have e:Heap.IsTuple (Shared.heap ⟨i,g,d,tk,os⟩) t a:=⟨_,b,rfl,n,rfl⟩
  wp_walk using Qu b
  refine wpAny_stack_any λst=>e_ ?_
  split
  ·rename_i c _ _ _ _ _;cases(c==Value.type "enumerate")<;>(wp_walk using Qu b,C2 e)<;>exact⟨_,rfl,h⟩
  ·wp_walk using Qu b,C2 e
   exact⟨_,rfl,h⟩
def CP(i:s.heap.IsTuple t a)(q:∀g,IsEnum g (s.heap.objs.size+1) s.heap.objs.size 0 .none->g.IsTupleIter s.heap.objs.size t 0->(∀b o,s.heap.get? b=some o->g.get? b=some o)->Q (.ref (s.heap.objs.size+1)) {s with heap:=g}):wpAny (model P w) A (call (.type "enumerate") [.ref t]) Q E s:=by
 obtain⟨⟨c,j,l,sl⟩,k,d,n,e⟩:=i;simp only at d e;subst d e;refine callType_new F.called_enumerate (by decide) (F.typeCall_enumerate_1 _) (F.newCall_enumerate_1 _) (λob=>F.args_object_init_2 ob _) F.entry_enumerate_new (AM t a n j sl) ⟨k,?_⟩;have f:(Ix s.heap t).objs.size=s.heap.objs.size+1:=n_ ..;show _/\_;rw[f];have h:IsEnum ((Ix s.heap t).push {cls:=.type "enumerate",data:=.fields #[.none,.bool false,.ref s.heap.objs.size,rawInt 0,.none,.none]}) (s.heap.objs.size+1) s.heap.objs.size 0 .none:=by have z:=g_ (Ix s.heap t) (o:={cls:=.type "enumerate",data:=.fields #[.none,.bool false,.ref s.heap.objs.size,rawInt 0,.none,.none]}) rfl;rw[f]at z;exact z
 exact⟨⟨_,h,rfl⟩,q _ h ⟨_,b_ _ (g_ _ rfl),rfl,rfl⟩ λb o x=>b_ _ (b_ _ x)⟩
def Ite(K:RC)(t:Addr):It:=⟨λi H=>∃a x,aT K H t a/\a[i]?=some x,λi H v b=>∃T x,H T=none/\v=.ref T/\b=az H T (.tup [.int i,x])/\∀a,aT K H t a->a[i]?=some x,λi H=>∃a,aT K H t a/\a.length=i⟩
def D0{P:RH}{w:World}{K:RC}{r:RJ}{Z:Nat}{F:Pos}{e a t:Addr}(n1:e≠a)(n2:t≠a)(n3:t≠e):vK P w K (.Tuple r Z F) (Ite K t) [e,a] e (λi h=>(∃d,IsEnum h e a i d)/\h.IsTupleIter a t i)where
 mem:=by simp
 obj:=λi h st b j=>by
  obtain⟨⟨_,a1⟩,ob,l,_,V⟩:=st;simp only[pv,oe,w_]at j;rcases j with rfl|rfl
  ·exact⟨_,a1,λv z=>by cases z⟩
  ·exact⟨_,l,λv z=>by rw[V]at z;cases z⟩
 keep:=λi h h' st k=>by obtain⟨⟨d,a1⟩,l⟩:=st;exact⟨⟨d,k e (by simp) _ a1⟩,l.at λob z=>k a (by simp) ob z⟩
 item:=by
  intro X G J L hc i m s R H E I B st hg;subst G J L;obtain⟨Y,x,C,S⟩:=hg;obtain⟨f,M,p,hz⟩:=I.tuple C;obtain⟨u,T,ru⟩:=M.get S;obtain⟨⟨d,a1⟩,l⟩:=st;have hi:i<f.toArray.size:=by rw[j_];exact(d_.mp T).1
  have n:X.A.in1.handled=none:=by simp[I.ok.hd hc]
  refine wpAny_pyNext_enum_itemD (Hv n a t n2 f.toArray) a1 ⟨l,p⟩ hi n1 (by simp[n1,o_ n3]) λv g tk D b1 b2 b3 b4 off=>?_;have ev:v=u:=by have D:f.toArray[i]?=some v:=D;rw[QP,T]at D;exact(ji D).symm
  subst ev;refine⟨_,rfl,wpAny_letOwnedTupleGo_enum b1 λg' c1 N=>?_⟩;have lt:∀c∈[e,a],c≠s.heap.objs.size:=λc y z=>by
   have hs:∃ob,s.heap.get? c=some ob:=by
    simp only[pv,oe,w_]at y;rcases y with rfl|rfl
    ·exact⟨_,a1⟩
    ·obtain⟨ob,z,_⟩:=l;exact⟨ob,z⟩
   obtain⟨ob,h⟩:=hs;rw[z]at h;exact absurd (iq h) (rm _)
  have fresh:H s.heap.objs.size=none:=I.hok.fresh (f_ _);have I1:aL X m R (az H s.heap.objs.size (.tup [.int i,x])) {s with heap:=s.heap.push {cls:=.type "tuple",data:=.seq #[.int i tk,v]},toks:=tk+1}:=I.laid (λb o z=>b_ _ z) (f_ _) ⟨by rw[j1];simp,[.int i tk,v],.cons ⟨tk,rfl⟩ (.cons ru .nil),⟨_,g_ _ rfl,rfl,_,rfl⟩⟩
  have I2:=gN (h':=g') (t':=tk+1) (ch:=[e,a]) I1 (λb o j z=>?_) (λb j=>?_)
  ·refine⟨.ref s.heap.objs.size,_,I2,rfl,⟨_,x,fresh,rfl,rfl,λaa h1=>by rw[I.tuple_inj h1 C];exact S⟩,⟨⟨_,by simpa using c1⟩,b2.1.extBut N.extBut (o_ n1)⟩,λb j=>?_⟩;rw[am (lt b j)];exact(B b j).1
  ·have q:b≠e/\b≠a:=by simpa using j
   by_cases U:b=s.heap.objs.size
   ·subst U;rw[g_ _ rfl]at z;cases z;exact N.extBut _ _ q.1 b3
   ·have z':s.heap.get? b=some o:=by
     rcases PF z with⟨O,_⟩|O
     ·exact absurd O U
     ·exact O
    exact N.extBut _ _ q.1 (off b o q.1 q.2 z')
  ·obtain⟨f0,f1⟩:=B b j;exact⟨by rw[am (lt b j)];exact f0,f1⟩
 done:=by
  intro X G J L hc i m s R H E I B st hg;subst G J L;obtain⟨Y,C,rfl⟩:=hg;obtain⟨f,M,p,hz⟩:=I.tuple C;have hl:=M.length;obtain⟨⟨d,a1⟩,l⟩:=st;have n:X.A.in1.handled=none:=by simp[I.ok.hd hc]
  have Q:s.heap.IsTupleIter a t f.toArray.size:=by rw[j_,<-hl];exact l
  refine wpAny_pyNext_enum_endD (Hv n a t n2 f.toArray) a1 ⟨Q,p⟩ λg off=>⟨rfl,gN (t':=s.toks) (ch:=[e,a]) I (λb o j z=>?_) B⟩;have q:b≠e/\b≠a:=by simpa using j
  exact off b o q.2 z
 self:=λ_ _ _ _ _ st h=>by obtain⟨⟨d,a1⟩,_⟩:=st;exact wpAny_pyIter_enum a1 h
section
variable{X:Cx}
def Ov(K:RC)(b:TA):TI:=λc H R=>b c H λd a=>∃t e,d=[.ref t]/\aT K a t e/\R (Ite K t) a
def Js(K:RC)(r:X.K=K){c:RJ}{v:Nat}{d:Pos}{a:Expr}{n:TA}{p f:Pos}(hg:Gl X "enumerate")(hm:X.mg "enumerate"=none)(w:PA X [a] n)(x:starEach [a] X.env=[(false,eval a X.env)]:=by rfl):PI X (.Tuple c v d) (.Call (.Name "enumerate" p) [a] [] f) (Ov K n):=by
 subst r;intro i s y H R I h;refine wr (lO I hg hm L2.vG (z_ (cy (w f i s y H _ I h) λG j⟨J,z,I1,A,B⟩=>?_) (by rw[x];rfl) (by rfl)));obtain⟨t,L,e,C,q⟩:=B;subst e;obtain⟨u,rfl,rt⟩:=jV A;obtain rfl:u=Value.ref t:=rt;obtain⟨l,M,pl,N⟩:=I1.tuple C;obtain⟨O,D,_⟩:=id pl;have lt:=iq D;refine CP (show j.heap.IsTuple t l.toArray from pl) λg m E F=>?_;refine wpAny_pyIter_enum m ⟨_,[j.heap.objs.size+1,j.heap.objs.size],_,_,z,rfl,I1.kept (t':=j.toks) F,D0 (t:=t) (ot (rx _)) (k4 lt) (k4 (ri lt)),⟨⟨_,m⟩,E⟩,λb o=>?_,q⟩;have k:j.heap.objs.size<=b:=by
  simp only[pv,oe,w_]at o;rcases o with rfl|rfl
  ·exact K_ _ _
  ·exact f_ _
 exact I1.fpOk k (I1.hok.fresh k)
end
end L2
namespace L2
open PySem PySem.Spec PyProof.Rows PySem.W
section
variable{X:Cx}
def Jw:lR (yd P w) X (λ_ _ _=>False):=λ_ _ _ _ _ _ _ h=>by obtain⟨_,_,_,_,_,_,_,_,_,_,_,_,_,q⟩:=h;exact q.elim
end
def EY{K:RC}{a l:Addr}{xs ys:List V}{g:TG}{ds:RL}{k:Nat}{tc:TT}{te:TE}{v:St}{h:Hp}{F:Addr->Hp->Prop}(Pv:Addr->Nat->List V->Hp->Prop)(o:aO K h l ys\/aT K h l ys)(h0:∀D,h D=none->Pv D 0 [] (az h D (.lst [])))(r:xs.length=ys.length)(u:∀D i c d,Pv D i c d->aT K d a xs/\ao h d)(B:∀D i x y c d T,h D=none->xs[i]?=some x->ys[i]?=some y->Pv D i c d->d T=none->g (.ref T) (fX ds k v) (az d T (.tup [x,y])) λe s=>tc e s λb j=>if b=true then te e j λy n=>n D=some (.lst c)/\c.length<sizeLine/\∃f,f<xs.length-i/\f=xs.length-(i+1)/\i+1<=xs.length/\Pv D (i+1) (c++[y]) (az n D (.lst (c++[y])))else∃f,f<xs.length-i/\f=xs.length-(i+1)/\i+1<=xs.length/\Pv D (i+1) c j)(hd:∀D c d,h D=none->Pv D xs.length c d->F D d):(aO K h l ys/\∀D,h D=none->∃W:Nat->Nat->List V->Hp->Prop,(∃m,W 0 m [] (az h D (.lst [])))/\∀i m c d,W i m c d->((K5 K a l).stop i d/\F D d)\/((K5 K a l).go i d/\∀x t,(K5 K a l).yld i d x t->g x (fX ds k v) t λe s=>tc e s λb j=>if b=true then te e j λy n=>n D=some (.lst c)/\c.length<sizeLine/\∃f,f<m/\W (i+1) f (c++[y]) (az n D (.lst (c++[y])))else∃f,f<m/\W (i+1) f c j))\/(aT K h l ys/\∀D,h D=none->∃W:Nat->Nat->List V->Hp->Prop,(∃m,W 0 m [] (az h D (.lst [])))/\∀i m c d,W i m c d->((K6 K a l).stop i d/\F D d)\/((K6 K a l).go i d/\∀x t,(K6 K a l).yld i d x t->g x (fX ds k v) t λe s=>tc e s λb j=>if b=true then te e j λy n=>n D=some (.lst c)/\c.length<sizeLine/\∃f,f<m/\W (i+1) f (c++[y]) (az n D (.lst (c++[y])))else∃f,f<m/\W (i+1) f c j)):=by
 rcases o with o|o
 ·exact .inl ⟨o,λD q=>HG (Pv D) (h0 D q) r (λi c d _ p=>⟨(u D i c d p).1,(u D i c d p).2.seq o⟩) (λi x y c d T w z p A=>B D i x y c d T q w z p A) λc d p=>hd D c d q p⟩
 ·exact .inr ⟨o,λD q=>EX (Pv D) (h0 D q) r (λi c d _ p=>⟨(u D i c d p).1,ao.tseq (u D i c d p).2 o⟩) (λi x y c d T w z p A=>B D i x y c d T q w z p A) λc d p=>hd D c d q p⟩
end L2
namespace L2
open PySem PySem.Spec PyProof.Rows PySem.W
def Iti(P:RH)(w:World)(d:Addr)(a:List (bL×V))(b:Nat):It:=⟨λi H=>H d=some (dE P w d a b)/\i<a.length,λi H x c=>∃T k v,H T=none/\x=.ref T/\c=az H T (.tup [kV k,v])/\a[i]?=some (k,v),λi H=>H d=some (dE P w d a b)/\a.length<=i⟩
def BH{P:RH}{w:World}{K:RC}{l:RJ}{Q:Nat}{r:Pos}(d f:Addr)(a:List (bL×V))(G:Nat):vK P w K (.Tuple l Q r) (Iti P w d a G) [f] f (λi h=>∃ok n,IsItemIter h f d i a.length G ok n)where
 mem:=by simp
 obj:=λi h st b g=>by
  have e:b=f:=by simpa using g
  subst e;obtain⟨_,_,e⟩:=st;exact⟨_,e,λv z=>by cases z⟩
 keep:=λi h h'⟨ok,n,e⟩k=>⟨ok,n,k f (by simp) _ e⟩
 item:=by
  intro X t x y hc i j s J H E I p st hg;subst t x y;obtain⟨hd,hi⟩:=hg;obtain⟨⟨_,A,kv,B⟩,_⟩:=I.hok d _ hd;have c:a.length=A.length:=Paired.length kv;have L:a[i]?=some a[i]:=hY hi;obtain⟨u,R,ru⟩:=y3 kv i a[i].1 a[i].2 L;obtain⟨ok,n,st⟩:=st;have lt:f<s.heap.objs.size:=iq st;rw[c]at st;refine wpAny_pyNext_items_item st B R λm h' S out T hz U=>?_;refine⟨_,rfl,wpAny_letOwnedTupleGo_items out λY M N=>?_⟩;rw[<-c]at M;have fresh:H s.heap.objs.size=none:=I.hok.fresh (f_ _);have I1:aL X j J (az H s.heap.objs.size (.tup [kV a[i].1,a[i].2])) {s with heap:=s.heap.push {cls:=.type "tuple",data:=.seq #[m,u]}}:=I.laid (t':=s.toks) (λb o z=>b_ _ z) (f_ _) ⟨by rw[j1];simp,[m,u],.cons (Dn S) (.cons ru .nil),⟨_,g_ _ rfl,rfl,_,rfl⟩⟩
  have Z:=gN (h':=Y) (t':=s.toks) (ch:=[f]) I1 (λb o g z=>?_) (λb g=>?_)
  ·refine⟨.ref s.heap.objs.size,_,Z,rfl,⟨_,a[i].1,a[i].2,fresh,rfl,rfl,L⟩,⟨_,_,M⟩,λb g=>?_⟩;have e:b=f:=by simpa using g
   subst e;rw[am (k4 lt)];exact(p b g).1
  ·have C:b≠f:=by simpa using g
   by_cases q:b=s.heap.objs.size
   ·subst q;rw[g_ _ rfl]at z;cases z;exact N.extBut _ _ C T
   ·have z':s.heap.get? b=some o:=by
     rcases PF z with⟨D,_⟩|D
     ·exact absurd D q
     ·exact D
    exact N.extBut _ _ C (U b o C z')
  ·have e:b=f:=by simpa using g
   subst e;obtain⟨F,f1⟩:=p b g;exact⟨by rw[am (k4 lt)];exact F,f1⟩
 done:=by intro X t x y hc i j s J H E I p st hg;subst t x y;obtain⟨hd,hi⟩:=hg;obtain⟨⟨_,A,kv,B⟩,_⟩:=I.hok d _ hd;have c:a.length=A.length:=Paired.length kv;obtain⟨F,f1,f2,f3,f4,f5⟩:=p f (by simp);obtain⟨ok,n,st⟩:=st;rw[c]at st;exact wpAny_pyNext_items_end (I.ok.hd hc) st B (o0 (by omega)) λh' q=>⟨rfl,I.turned (t':=s.toks) (λb o g e=>q b o g e) F f1 f3 f4 f5⟩
 self:=λ_ _ _ _ _ st h=>by obtain⟨_,_,st⟩:=st;exact kcp_self st h
section
variable{X:Cx}{P:RH}{w:World}{o:Expr}{i:TE}{c a g:Pos}{f:RJ}{j:Nat}
def Mv(P:RH)(w:World)(i:TE):TI:=λk H R=>i k H λx e=>∃d b,x=.ref d/\e d=some (.dK b)/\∀h,R (Iti P w d b h) (az e d (dE P w d b h))
def Ao(C:PE X o i)(D:X.prog=P:=by rfl)(E:X.w=w:=by rfl)(l:attributeBase o "items" X.env (eval o X.env)=eval o X.env:=by rfl)(n:(c.endLine==a.line)=true:=by rfl):PI X (.Tuple f j g) (.Call (.Attribute o "items" c) [] [] a) (Mv P w i):=by
 subst D E;intro m s G H R I h;refine wpAny_Call_method0_late l n (cy (C m s G H _ I h) λv k⟨x,S,I1,J,d,p,e,hd,q⟩=>?_);subst e;obtain rfl:v=Value.ref d:=J;obtain⟨A,B,kv,r,K,L⟩:=I1.walk hd;have t:p.length=B.length:=Paired.length kv;obtain⟨ob,T,u,M,_⟩:=id r;refine⟨"dict","dict.items",PySem.F.plainAttrs_dict,PySem.F.slot_dict_items,PySem.F.type_dict_items,r.dictOf.typeIs,?_,s_ rfl (PySem.evalArgs_none (M_ PySem.F.slot_dict_items r.dictOf.typeIs PySem.F.entry_dict_items (PySem.F.args_dict_items_1 _) (meets_dict_items (aK X.prog X.w) d K) ⟨⟨B,r.dictOf⟩,?_⟩))⟩
 ·intro b z;cases z;exact⟨ob,u,M.2.1⟩
 ·have N:(k.heap.push {cls:=.type "dict_items",data:=.fields #[.ref d]}).IsItemsView k.heap.objs.size d:=⟨_,g_ _ rfl,rfl,rfl⟩;show wpAny _ _ (pyIter (.ref k.heap.objs.size)) _ _ _;have y:=L.kept (h':=k.heap.push {cls:=.type "dict_items",data:=.fields #[.ref d]}) (t':=k.toks) λb o e=>b_ _ e;refine wpAny_pyIter_items (s:={k with heap:=k.heap.push {cls:=.type "dict_items",data:=.fields #[.ref d]}}) N (r.push _) ?_;refine⟨_,[(k.heap.push {cls:=.type "dict_items",data:=.fields #[.ref d]}).objs.size],_,_,_,rfl,y.kept (t':=k.toks) λb o e=>b_ _ e,BH d _ p A,⟨_,_,by rw[t];exact g_ _ rfl⟩,λb Q=>?_,q A⟩;have e:b=(k.heap.push {cls:=.type "dict_items",data:=.fields #[.ref d]}).objs.size:=by simpa using Q
  subst e;exact y.fpOk (f_ _) (y.hok.fresh (f_ _))
end
end L2
namespace L2
open PySem PySem.Spec PyProof.Rows PySem.W
def qw(n:Nat){c:Type}(R:c->Prop):KasT c->Prop|.ret a=>R a|.ask i j k=>i<n/\j<n/\∀b,qw n R (k b)
theorem qw.bind{n:Nat}{c d:Type}{R:c->Prop}{S:d->Prop}{f:c->KasT d}(e:∀a,R a->qw n S (f a)):∀{t:KasT c},qw n R t->qw n S (t.bind f)|.ret a,h=>e a h|.ask i j k,h=>⟨h.1,h.2.1,λb=>qw.bind e (h.2.2 b)⟩
theorem qw.wp{n:Nat}{d:Type}{R:d->Prop}{c:Nat->Nat->(Bool->Shared->Prop)->Shared->Prop}{Q:d->Shared->Prop}{s:Shared}(hc:∀i j C,i<n->j<n->(∀b,C b s)->c i j C s)(e:∀a,R a->Q a s):∀{t:KasT d},qw n R t->t.kasWp c Q s|.ret a,h=>e a h|.ask i j k,h=>hc i j _ h.1 h.2.1 λb=>qw.wp hc e (h.2.2 b)
def PR(n:Nat)(p:Array Nat):Prop:=p.toList.Perm (List.range n)
def PR.lt(h:PR n p)(hn:0<n)(k:Nat):p.getD k 0<n:=by
 by_cases a:k<p.size
 ·have e:p.getD k 0=p[k]:=by simp[Array.getD,a]
  rw[e];exact to.mp (h.mem_iff.mp (Array.mem_toList_iff.mpr (Array.getElem_mem a)))
 ·have e:p.getD k 0=0:=by simp[Array.getD,a]
  rw[e];exact hn
def PR.rev(h:PR n p)(i j:Nat):PR n (kas_rev p i j):=(mirror_perm p i j _).toList.trans h
section
variable{n:Nat}(hn:0<n)
include hn
theorem y6(h:PR n p):∀f m,qw n (λ_=>True) (kas_asc p f m)|0,_=>trivial|f+1,m=>⟨h.lt hn _,h.lt hn _,λb=>by cases b with|true=>exact trivial|false=>exact y6 h f (m+1)⟩
theorem pS:∀(f:Nat){p:Array Nat}(m q:Nat),PR n p->qw n (λr:Array Nat×Nat×Nat=>PR n r.1) (kas_desc f p m q)|0,_,_,_,h=>h|f+1,p,m,q,h=>⟨h.lt hn _,h.lt hn _,λb=>by
 cases b with|true=>
   show qw n _ (if q>0 then _ else _)
   split
   ·exact pS f _ _ (h.rev _ _)
   ·exact pS f _ _ h|false=>refine⟨h.lt hn _,h.lt hn _,λd=>?_⟩;cases d with|true=>exact h|false=>exact pS f _ _ h⟩
def AX{p:Array Nat}(m r:Nat)(h:PR n p):qw n (λr:Nat×Array Nat=>PR n r.2) (kas_tail3 m r p):=qw.bind (S:=λr:Nat×Array Nat=>PR n r.2) (f:=λa=>.ret (a,kas_rev p 0 m)) (λ_ _=>h.rev _ _) (y6 hn (h.rev _ _) _ _)
def AY{p:Array Nat}(m r:Nat)(h:PR n p):qw n (λr:Nat×Array Nat=>PR n r.2) (kas_descPart m r p):=qw.bind (λa b=>by
 show qw n _ (if a.2.2>0 then _ else _)
 split
 ·exact AX hn _ _ (b.rev _ _)
 ·exact AX hn _ _ b) (pS hn _ _ _ h)
def EF{p:Array Nat}(r:Nat)(h:PR n p):qw n (λr:Nat×Array Nat=>PR n r.2) (kas_count r p):=qw.bind (λm _=>by
 show qw n _ (if(m==r)=true then _ else _)
 split
 ·exact h
 ·split
  ·refine⟨h.lt hn _,h.lt hn _,λc=>?_⟩;cases c with|true=>exact h|false=>exact AY hn _ _ (h.rev _ _)
  ·exact AY hn _ _ h) (y6 hn h _ _)
theorem rL{p:Array Nat}(h:PR n p)(k:Nat):∀f l r,qw n (λ_=>True) (kas_place p k f l r)
 |0,_,_=>trivial|f+1,l,r=>by
  show qw n _ (if l>=r then _ else _)
  split
  ·exact trivial
  ·refine⟨h.lt hn _,h.lt hn _,λc=>?_⟩;cases c with|true=>exact rL h k f _ _|false=>exact rL h k f _ _
theorem Ds:∀(f:Nat){p:Array Nat}(k:Nat),PR n p->qw n (PR n) (kas_bin f p k)|0,_,_,h=>h|f+1,p,k,h=>qw.bind (λl _=>Ds f _ ((bubble_perm p k _).toList.trans h)) (rL hn h _ _ _ _)
def G0:qw n (PR n) (kas_sort n):=qw.bind (λr a=>by
 show qw n _ (if r.1<n then _ else _)
 split
 ·exact Ds hn _ _ a
 ·exact a) (EF hn _ (show(List.toArray (List.range n)).toList.Perm _ by exact .refl _))
end
section
variable{prog:RH}{w:World}{A:Around}{E:RD}{s:Shared}{κ:SortKind}
def FU{a:Addr}{c:RG}{n:Nat}{P:Fin->Shared->Prop}(v:s.heap.get? a=some (seqObj "list" c.toArray n))(L:c.length<64)(M:2<=c.length->∀g:Shared,(∀b o,b≠a->s.heap.get? b=some o->g.heap.get? b=some o)->(∀Q:SortKind->Shared->Prop,Q κ g->wpAny (model prog w) A (keyKind' c.toArray) Q (λ_ _=>False) g)/\∀x y C,x∈c->y∈c->(∀b,C b g)->wpAny (model prog w) A (keyLt' κ x y) C (λ_ _=>False) g)(h:∀out:List Value,out.Perm c->P (.done (.ret .none)) {s with heap:=sortedHeap s.heap a c out.toArray}):wpAny (model prog w) A (Builtin.«list.sort» ⟨[.ref a],[]⟩) P E s:=by
 rw[list_sort_plain];have B:c.toArray.size=c.length:=by simp
 refine a_ (listItems_at v rfl ?_);refine a_ (listUpdate_at v rfl ?_ (by rw[B,j1];lia) (m_ _));obtain⟨D,k⟩:∃D,(s.heap.update a (Obj.mapSeq λ_=>#[])).get? a=some (seqObj "list" #[] D):=⟨_,get?_update_seq v (λ_=>#[])⟩;refine a_ (seqEpoch_at k rfl ?_);refine a_ (wpAny_newTuple ?_ (by show c.length<=_;rw[j1];lia));refine a_ (wpAny_newList ?_ (m_ _));refine p_ ?_;have kept:∀b o,b≠a->s.heap.get? b=some o->(((s.heap.update a (Obj.mapSeq λ_=>#[])).push (seqObj "tuple" c.toArray 0)).push (seqObj "list" #[] 0)).get? b=some o:=λb o N q=>b_ _ (b_ _ ((Heap.get?_update_ne _ _ _ _ N).trans q))
 have d:(((s.heap.update a (Obj.mapSeq λ_=>#[])).push (seqObj "tuple" c.toArray 0)).push (seqObj "list" #[] 0)).get? a=some (seqObj "list" #[] D):=b_ _ (b_ _ k);show wpAny (model prog w) A _ P E {s with heap:=((s.heap.update a (Obj.mapSeq λ_=>#[])).push (seqObj "tuple" c.toArray 0)).push (seqObj "list" #[] 0)};dsimp only;have F:(c.toArray.zip c.toArray).size=c.length:=by simp
 by_cases h2:c.toArray.size<2
 ·rw[i_ h2,i_ h2];refine a_ (e_ ?_);rw[StateT.run_pure];refine a_ (e_ ?_);dsimp only;refine a_ (seqEpoch_at d rfl ?_);refine a_ (listUpdate_at d rfl ?_ (m_ _) (by refine mu (PL ((Array.size_map ..).trans F)) ?_;rw[j1];lia));simp only[bne_self_eq_false,PZ,Qy];have e:(c.toArray.zip c.toArray).map (·.2)=c.toArray:=by
   apply Array.toList_inj.mp;have e:(c.toArray.zip c.toArray).toList=c.zip c:=by simp
   rw[Array.toList_map,e];exact List.map_snd_zip (f_ _)
  have:=h c (.refl _);rw[<-e]at this;exact e_ this
 ·rw[ir h2,ir h2];have l:2<=c.length:=by lia
  obtain⟨O,R⟩:=M l {s with heap:=((s.heap.update a (Obj.mapSeq λ_=>#[])).push (seqObj "tuple" c.toArray 0)).push (seqObj "list" #[] 0)} kept;refine a_ (wpAny_mono (O (λm K=>m=κ/\K={s with heap:=((s.heap.update a (Obj.mapSeq λ_=>#[])).push (seqObj "tuple" c.toArray 0)).push (seqObj "list" #[] 0)}) ⟨rfl,rfl⟩) (λm K z=>?_) λ_ _ x=>x.elim);obtain⟨rfl,rfl⟩:=z;refine a_ (wpAny_mono (kat_run (ks:=c) (vs:=c) (Q:=λf r=>∃p:Array Nat,arrOf f=p.map (kas_item (c.toArray.zip c.toArray))/\failedOf f=none/\PR c.length p/\r=_) (G:=λp r=>PR c.length p/\r=_) rfl l L (λp f r a1 T U a4=>⟨p,T,U,a4⟩) (qw.wp (λi j C hi V W=>?_) (λp u=>⟨u,rfl⟩) (G0 (by lia)))) ?_ λ_ _ e=>e)
  ·unfold kas_ask;have mem:∀i,i<c.length->c.getD i Value.none∈c:=λi hi=>by rw[si,hY hi];exact C1 hi
   exact R _ _ C (mem i hi) (mem j V) W
  ·rintro⟨⟨⟩,f⟩r⟨p,H,X,u,rfl⟩;dsimp only;have t:=kat_snds (ks:=c) (vs:=c) rfl H;have I:p.toList.length=c.length:=by rw[u.length_eq,rl]
   have J:(p.toList.map λi=>c.getD i Value.none).Perm c:=by
    refine(u.map λi=>c.getD i Value.none).trans (RA ?_);refine zz λi=>?_;rw[ig]
    by_cases hi:i<c.length
    ·rw[List.getElem?_range hi];simp[hi]
    ·rw[o0 (by rw[rl];lia),o0 (by lia)];rfl
   rw[t];refine a_ (seqEpoch_at d rfl ?_);refine a_ (listUpdate_at d rfl ?_ (m_ _) (by rw[j_,c_,I,j1];lia));rw[X];simp only[bne_self_eq_false,PZ,Qy];exact e_ (h _ J)
end
def Bs(h:Heap)(v:Value):Prop:=∃a o n x y z t u b,v=.ref a/\h.get? a=some o/\o.cls=.type "tuple"/\o.data=.seq #[.str x t,.str y u,.str z b] n
def Bs.kept(p:Bs h v)(k:∀b o,h.get? b=some o->h'.get? b=some o):Bs h' v:=by obtain⟨a,o,n,x,y,z,t,u,c,e,d,r⟩:=p;exact⟨a,o,n,x,y,z,t,u,c,e,k _ _ d,r⟩
section
variable{prog:RH}{w:World}{A:Around}{E:RD}{s:Shared}
def IA(g:Bs s.heap v)(h:Bs s.heap u)(d:∀b,C b s):wpAny (model prog w) A (keyLt' (tuples' true) v u) C (λ_ _=>False) s:=by obtain⟨a,o,n,x,y,z,p,q,r,rfl,i,hc,hd⟩:=g;obtain⟨B,D,F,G,H,I,j,k,l,rfl,e,m,f⟩:=h;have c:∀{x y:Str}{t u:Tok},wpAny (model prog w) A (oneLt' false (.str x t) (.str y u)) C (λ_ _=>False) s:=λ{x y t u}=>kat_one _ _ (lt_str (d _));refine kat_lt i hd e f (kat_cons (Qx (kat_go (λ_=>kat_yes (kat_cons (Qx (kat_go (λ_=>kat_yes (kat_cons (Qx (kat_go (λ_=>kat_yes (kat_nil (d _))) (λ_=>kat_no c))))) (λ_=>kat_no c))))) (λ_=>kat_no (oneLt_str (d _))))))
theorem sB:∀{c:RG},(∀v∈c,Bs h v)->∃fs:List Value,KatTups h c fs/\fs.length=c.length/\∀v∈fs,∃x t,v=Value.str x t
 |[],_=>⟨[],.nil,rfl,λv b=>nomatch b⟩|u::r,d=>by
  obtain⟨a,o,n,x,y,z,e,g,i,rfl,f,hc,hd⟩:=d u (l_ ..);obtain⟨fs,h1,h2,h3⟩:=sB λv b=>d v (kw _ b);refine⟨.str x e::fs,.cons f hc hd rfl h1,by simp[h2],λv b=>?_⟩;rcases pv.mp b with rfl|b
  ·exact⟨_,_,rfl⟩
  ·exact h3 v b
def BJ(g:s.heap.IsList l vs.toArray)(i:vs.length<64)(j:∀v∈vs,Bs s.heap v)(h:∀out:List Value,out.Perm vs->Q (.ref (s.heap.objs.size+1)) {s with heap:=sortedAll s.heap vs out.toArray}):wpAny (model prog w) A (call (.builtin "sorted") [.ref l]) Q E s:=by
 refine Calls.call_function_entry kind_sorted plain_sorted entry_sorted (args_sorted1 _) ?_;unfold Builtin.«sorted»;refine a_ (m:=checkCount "sorted" 1 1 _) (e_ ?_);refine a_ (collect_list g ?_ (by rw[j1];lia));refine a_ (wpAny_newList ?_ (by rw[j1];lia));have c:((s.heap.push (seqObj "list" #[] 0)).update s.heap.objs.size (Obj.mapSeq (·++vs.toArray))).objs.size=s.heap.objs.size+1:=by rw[Heap.size_update,size_push']
 have e:(((s.heap.push (seqObj "list" #[] 0)).update s.heap.objs.size (Obj.mapSeq (·++vs.toArray))).push (seqObj "list" vs.toArray 0)).get? (s.heap.objs.size+1)=some (seqObj "list" vs.toArray 0):=by rw[<-c];exact g_ _ rfl
 have keep:∀b o,s.heap.get? b=some o->b≠s.heap.objs.size+1/\(((s.heap.push (seqObj "list" #[] 0)).update s.heap.objs.size (Obj.mapSeq (·++vs.toArray))).push (seqObj "list" vs.toArray 0)).get? b=some o:=λb o q=>by have a:b<s.heap.objs.size:=iq q;refine⟨k4 (ri a),?_⟩;rw[Heap.get?_push_ne _ _ _ (by rw[c];exact k4 (ri a)),Heap.get?_update_ne _ _ _ _ (k4 a),Heap.get?_push_ne _ _ _ (k4 a)];exact q
 show wpAny _ _ _ _ _ {s with heap:=((s.heap.push (seqObj "list" #[] 0)).update s.heap.objs.size (Obj.mapSeq (·++vs.toArray))).push (seqObj "list" vs.toArray 0)};rw[c];refine a_ (p_ (qq slot_list_sort (s:={s with heap:=((s.heap.push (seqObj "list" #[] 0)).update s.heap.objs.size (Obj.mapSeq (·++vs.toArray))).push (seqObj "list" vs.toArray 0)}) ⟨_,e,rfl⟩ entry_list_sort (FU (κ:=tuples' true) e i (λh2 k n=>?_) λout a1=>⟨_,rfl,?_⟩) (args_list_sort _)))
 ·have d:∀v∈vs,Bs k.heap v:=λv f=>(j v f).kept λb o q=>n b o (keep b o q).1 (keep b o q).2;refine⟨λF p=>?_,λx y C r u z=>IA (d x r) (d y u) z⟩;obtain⟨fs,h1,B,h3⟩:=sB d;refine kat_kind (T:=Value.type "str") h1 (by lia) (λv f=>?_) (by decide+kernel) ?_
  ·obtain⟨x,t,rfl⟩:=h3 v f;exact Looks.of_pure rfl
  ·rw[show(Value.type "str"!=Value.type "tuple")=true by decide+kernel];exact p
 ·exact e_ ⟨_,rfl,h out a1⟩
end
theorem C8:∀{b:RM}{a:RG},aY (b.map V.ref) a->a=b.map Value.ref|[],_,.nil=>rfl|u::r,_,.cons h t=>by obtain rfl:_=Value.ref u:=h;rw[C8 t];rfl
theorem yD:∀{a:RM},aY (a.map V.ref) (a.map Value.ref)|[]=>.nil|_::_=>.cons rfl yD
def El(h:out.Perm (b.map Value.ref)):∃c:List Addr,c.Perm b/\out=c.map Value.ref:=by
 let f:Value->Addr:=λv=>match v with|.ref a=>a|_=>0
 have e:(b.map Value.ref).map f=b:=by rw[t_];exact(PN (g:=id) λa _=>rfl).trans (List.map_id b)
 have i:(out.map f).map Value.ref=out:=by rw[t_];refine(PN (g:=id) λv j=>?_).trans (List.map_id out);obtain⟨a,_,rfl⟩:=mo.mp (h.mem_iff.mp j);rfl
 have d:=h.map f;rw[e]at d;exact⟨_,d,i.symm⟩
def CM(K:RC)(A:X.K=K):cN X (.builtin "sorted") (λl H Q=>∃(p:Addr)(b:RM),l=[.ref p]/\aO K H p (b.map V.ref)/\b.length<64/\(∀u∈b,∃x y z,aT K H u [.str x,.str y,.str z])/\∀(q:Addr)(c:RM),H q=none->c.Perm b->Q (.ref q) (az H q (.lst (c.map V.ref)))):=by
 subst A;intro m s P H l R Q I r h;obtain⟨p,b,rfl,B,hn,C,q⟩:=h;obtain⟨u,rfl,D⟩:=jV r;obtain rfl:u=Value.ref p:=D;obtain⟨e,f,⟨o,n,g,i,w,E⟩,_⟩:=I.list B;obtain rfl:=C8 f;refine BJ (vs:=b.map Value.ref) ⟨o,g,i,n,E⟩ (by rw[c_];lia) (λv F=>?_) λout j=>?_
 ·obtain⟨a,hm,rfl⟩:=mo.mp F;obtain⟨x,y,z,G⟩:=C a hm;obtain⟨e,f,⟨o,g,i,n,w⟩,_⟩:=I.tuple G;cases f with|cons h1 t=>cases t with|cons h2 t=>cases t with|cons h3 t=>cases t;obtain⟨J,rfl⟩:=h1;obtain⟨L,rfl⟩:=h2;obtain⟨M,rfl⟩:=h3;exact⟨a,o,n,x,y,z,J,L,M,rfl,g,i,w⟩
 ·obtain⟨c,d,rfl⟩:=El j;obtain⟨N,k⟩:=sortedAll_at s.heap (b.map Value.ref) (c.map Value.ref).toArray;have O:=d.length_eq;refine⟨.ref (s.heap.objs.size+1),_,I.laid (h':=sortedAll s.heap (b.map Value.ref) (c.map Value.ref).toArray) (t':=s.toks) (o:=.lst (c.map V.ref)) (λ_ _=>sortedAll_old) (rk _) ⟨?_,_,N,yD,k⟩,rfl,q _ c (I.hok.fresh (rk _)) d⟩;rw[c_,j1];lia
end L2
namespace L2
open PySem PySem.Spec PyProof.Rows PySem.W
def zr{J:It}{n:Nat}{g:TG}{ds:RL}{k:Nat}{tc:TT}{te:TE}{r:St}{s:Hp}{D:Addr}{F:Hp->Prop}(Pv:Nat->List V->Hp->Prop)(h0:Pv 0 [] (az s D (.lst [])))(hg:∀i a c,i<n->Pv i a c->J.go i c)(t:∀i a c x h,i<n->Pv i a c->J.yld i c x h->g x (fX ds k r) h λd q=>tc d q λb j=>if b=true then te d j λy l=>l D=some (.lst a)/\a.length<sizeLine/\∃f,f<n-i/\f=n-(i+1)/\i+1<=n/\Pv (i+1) (a++[y]) (az l D (.lst (a++[y])))else∃f,f<n-i/\f=n-(i+1)/\i+1<=n/\Pv (i+1) a j)(hd:∀a c,Pv n a c->J.stop n c/\F c):∃W:Nat->Nat->List V->Hp->Prop,(∃m,W 0 m [] (az s D (.lst [])))/\∀i m a c,W i m a c->(J.stop i c/\F c)\/(J.go i c/\∀x h,J.yld i c x h->g x (fX ds k r) h λd q=>tc d q λb j=>if b=true then te d j λy l=>l D=some (.lst a)/\a.length<sizeLine/\∃f,f<m/\W (i+1) f (a++[y]) (az l D (.lst (a++[y])))else∃f,f<m/\W (i+1) f a j):=by
 refine⟨λi m a c=>m=n-i/\i<=n/\Pv i a c,⟨_,rfl,m_ _,h0⟩,?_⟩;rintro i m a c⟨rfl,hi,p⟩
 by_cases o:i<n
 ·exact .inr ⟨hg i a c o p,λx h y=>t i a c x h o p y⟩
 ·have e:i=n:=by lia
  subst e;exact .inl (hd a c p)
def Hk{J:It}{n:Nat}{g:TG}{j:TS}{D:oW}{a:St}{H:Hp}(Pv:Nat->St->Hp->Prop)(h0:Pv 0 a H)(hg:∀i a H,i<n->Pv i a H->J.go i H)(o:∀i a H x b,i<n->Pv i a H->J.yld i H x b->g x a b λc h=>j {D with nx:=Pv (i+1),ct:=Pv (i+1),bk:=D.nx} c h)(hd:∀a H,Pv n a H->J.stop n H/\D.nx a H):∃W:Nat->Nat->St->Hp->Prop,(∃m,W 0 m a H)/\∀i m a H,W i m a H->(J.stop i H/\D.nx a H)\/(J.go i H/\∃N:St->Hp->Prop,(∀d b,N d b->∃l,l<m/\W (i+1) l d b)/\∀x b,J.yld i H x b->g x a b λc h=>j {D with nx:=N,ct:=N,bk:=D.nx} c h):=by
 refine⟨λi m a H=>m=n-i/\i<=n/\Pv i a H,⟨n,by simp,m_ _,h0⟩,?_⟩;rintro i m a H⟨rfl,hi,p⟩
 by_cases f:i<n
 ·exact .inr ⟨hg i a H f p,Pv (i+1),λd b k=>⟨n-(i+1),by omega,rfl,f,k⟩,λx b y=>o i a H x b f p y⟩
 ·have e:i=n:=by lia
  subst e;exact .inl (hd a H p)
end L2
namespace L2
open PySem
def rF{K:RC}{f:Str}{a C dx:Addr}{fs:List (Str×V)}{v:V}{H:Hp}{R:V->Prop}(h:H a=some (.ins C dx fs))(hc:zK K C)(hn:aU K C f)(i:fs.lookup f=some v)(k:R v):∃e c d b g,V.ref a=.ref e/\H e=some (.ins c d b)/\zK K c/\aU K c f/\b.lookup f=some g/\R g:=⟨a,C,dx,fs,v,rfl,h,hc,hn,i,k⟩
def rM{a C dx:Addr}{m:Str}{fs:List (Str×V)}{H:Hp}{R:Prop}(h:H a=some (.ins C dx fs))(hn:fs.lookup m=none)(k:R):∃d c b,V.ref a=.ref d/\H d=some (.ins C c b)/\b.lookup m=none/\R:=⟨a,dx,fs,rfl,h,hn,k⟩
def rG{c:Type}{a:Addr}{A R:Addr->c->Prop}(v:c)(h:A a v)(k:R a v):∃b d,V.ref a=.ref b/\A b d/\R b d:=⟨a,v,rfl,h,k⟩
def rX{A:Addr->List V->Prop}{p:Addr}{b:List V}{i:Int}{v:V}{R:V->Prop}(h:A p b)(f:vJ b i=some v)(k:R v):∃c a d e,V.ref p=.ref c/\V.int i=.int d/\A c a/\vJ a d=some e/\R e:=⟨p,b,i,v,rfl,rfl,h,f,k⟩
def rA{l:Addr}{b:List V}{y:V}{H:Hp}{R:Addr->List V->V->Prop}(h:H l=some (.lst b))(e:b.length<sizeLine)(k:R l b y):∃c a d,V.ref l=.ref c/\[y]=[d]/\H c=some (.lst a)/\a.length<sizeLine/\R c a d:=⟨l,b,y,rfl,rfl,h,e,k⟩
def r2{i j:Int}{R:Int->Int->Prop}(k:R i j):∃a b,V.int i=.int a/\V.int j=.int b/\R a b:=⟨i,j,rfl,rfl,k⟩
def U{a:Type}{A R:a->Prop}{v:a}(h:A v)(k:R v):∃v,A v/\R v:=⟨v,h,k⟩
def jS{K:RC}{f:Str}{a C dx:Addr}{fs:List (Str×V)}{o:Option (Option V)}{v:V}{H:Hp}{R:V->Prop}(h:H a=some (.ins C dx fs))(hc:zK K C)(hn:aU K C f)(h0:o=some (some (.ref a)))(i:fs.lookup f=some v)(k:R v):∃w,o=some (some w)/\∃e c d b g,w=.ref e/\H e=some (.ins c d b)/\zK K c/\aU K c f/\b.lookup f=some g/\R g:=⟨_,h0,a,C,dx,fs,v,rfl,h,hc,hn,i,k⟩
def pC{a C dx:Addr}{m:Str}{fs:List (Str×V)}{o:Option (Option V)}{H:Hp}{R:V->Prop}(h:H a=some (.ins C dx fs))(h0:o=some (some (.ref a)))(hn:fs.lookup m=none)(k:R (.ref a)):∃w,o=some (some w)/\∃d c b,w=.ref d/\H d=some (.ins C c b)/\b.lookup m=none/\R w:=⟨_,h0,a,dx,fs,rfl,h,hn,k⟩
end L2
namespace L2
open PySem PySem.Spec PyProof.Rows PySem.W
section
variable{X:Cx}
theorem IsPs.mem(I:aL X e j H s):∀{f:List V}{ds:List PyData}{c:RG},IsPs X.K H f ds->aY f c->(∀u∈c,∃d∈ds,∃b,Reads s.heap u d b)/\∀d∈ds,∃u∈c,∃b,Reads s.heap u d b
 |_,_,_,.nil,r=>by cases r;exact⟨λu a=>(nomatch a),λu a=>(nomatch a)⟩|_,_,_,.cons h g,.cons i r2=>by
  obtain⟨b,q⟩:=DG.reads I h i;obtain⟨p1,p2⟩:=IsPs.mem I g r2;refine⟨λu a=>?_,λd hd=>?_⟩
  ·rcases pv.mp a with rfl|a
   ·exact⟨_,l_,b,q⟩
   ·obtain⟨d,hd,x⟩:=p1 u a;exact⟨d,kw _ hd,x⟩
  ·rcases pv.mp hd with rfl|hd
   ·exact⟨_,l_,b,q⟩
   ·obtain⟨u,a,x⟩:=p2 d hd;exact⟨u,kw _ a,x⟩
abbrev qE(e:RI):PyData:=.tuple (e.map PyData.str)
theorem BE:∀{e:RI}{b:RG}{c:RM},ReadsAll h b (e.map PyData.str) c->∀j(a:j<b.length),∃x t,e[j]?=some x/\b[j]=.str x t
 |[],_,_,.nil,j,a=>absurd a (QK _)|x::r,_,_,.cons h1 h2,0,a=>by cases h1 with|str _ t=>exact⟨x,t,rfl,rfl⟩
 |x::r,_,_,.cons h1 h2,j+1,a=>by obtain⟨y,t,d,f⟩:=BE (e:=r) h2 j (by simpa using a);exact⟨y,t,by simpa using d,by simpa using f⟩
theorem C0:∀{e d:RI}{a:RG}{b bs:RM},ReadsAll h a (e.map PyData.str) b->ReadsAll h a (d.map PyData.str) bs->e=d|[],[],_,_,_,_,_=>rfl|[],_::_,_,_,_,.nil,k=>nomatch k|_::_,[],_,_,_,.cons _ _,k=>nomatch k|x::r,y::q,_,_,_,.cons h1 h2,.cons c f=>by cases h1 with|str _ t=>cases c with|str _ _=>rw[C0 h2 f]
theorem ul:∀e:List Str,PyData.eqvAll (e.map PyData.str) (e.map PyData.str)=true|[]=>rfl|x::r=>by rw[np,PyData.eqvAll,ul r];simp[PyData.eqv]
def Ll(r:Reads s.heap a (qE e) I)(u:Reads s.heap b (qE d) bs)(v:A.units<cLine):SeqAt.EqAt A s a b (PyData.eqv (qE e) (qE d)):=by cases r with|@tuple l o w n _ _ h1 h2 h3 h4=>cases u with|@tuple i J c n2 _ _ f z g h=>
   show SeqAt.EqAt A s (.ref l) (.ref i) (PyData.eqvAll (e.map PyData.str) (d.map PyData.str))
   by_cases q:l=i
   ·subst q;rw[h1]at f;obtain rfl:=ji f;rw[h3]at g;cases g;rw[C0 h4 h,ul];exact .same _
   ·have B:w.size=(e.map PyData.str).length:=by simpa using SeqAt.ReadsAll.length _ _ _ h4
    have C:c.size=(d.map PyData.str).length:=by simpa using SeqAt.ReadsAll.length _ _ _ h
    rw[<-SeqAt.eqvAll_eq,<-B,<-C];refine .of_refs q (SeqAt.RcAt.tuples ⟨_,h1,h2,_,h3⟩ ⟨_,f,z,_,g⟩ v λj D E=>?_);obtain⟨x,t,F,k⟩:=BE h4 j (by simpa using D);obtain⟨y,G,H,m⟩:=BE h j (by simpa using E);have p:SeqAt.pairEq (e.map PyData.str) (d.map PyData.str) j=(x==y):=by unfold SeqAt.pairEq;rw[si,si,ig,ig,F,H];rfl
    rw[Array.getElem_toList]at k m;rw[p,k,m];exact .str_str x t y G
def Ph{A:Around}{k:Nat}(a:eK k A):A.units+65<cLine:=by have:=a.un;lia
end
end L2
namespace L2
open PySem PySem.Spec PyProof.Rows PySem.W
set_option genInjectivity false in
set_option genSizeOf false in
structure AF where
 x:Addr
 d:FuncData
structure Df(K:RC)(mg:RF)(n:Str)(st:Stmt)(a:AF)(ps:RI):Prop where
 f:zJ K n n st a.x a.d
 m:mg n=some (.ref a.x)b:gz K a.d ps []
structure Mf(K:RC)(C:Addr)(n q:Str)(st:Stmt)(a:AF)(ps:RI):Prop where
 f:zJ K n q st a.x a.d
 m:Io K C n a.x
 b:gz K a.d ps []
def Dp(K:RC)(n:Str)(st:Stmt):Prop:=∃a:AF,PySem.W.nsIn K mainGlobals n=some (some (.ref a.x))/\zJ K n n st a.x a.d
def Mp(K:RC)(C:Addr)(n q:Str)(st:Stmt):Prop:=∃a:AF,PySem.W.findIn K (.ref C) n=some (some (.ref a.x))/\PySem.W.isFn K (.ref a.x)=true/\zJ K n q st a.x a.d
def Gp(K:RC)(n:Str)(x:Addr):Prop:=PySem.W.nsIn K mainGlobals n=some (some (.ref x))
def Ip(K:RC)(n:Str)(i:Int):Prop:=∃t,PySem.W.nsIn K mainGlobals n=some (some (.int i t))
def OW(K:RC)(n:Str)(i:Str):Prop:=∃t,PySem.W.nsIn K mainGlobals n=some (some (.str i t))
def Zp(K:RC)(n:Str):Prop:=PySem.W.nsIn K mainGlobals n=some none
structure Cp(K:RC)(x:Addr):Prop where
 p0:PySem.W.plainGet K x Str.empty=true
 p1:PySem.W.hasDictIn K x=true
 p2:PySem.W.plainOver K x=true
 p3:PySem.W.findIn K (.ref x) "__setattr__"=some (some (.builtin "object.__setattr__"))p4:PySem.W.makesIn K x=true
 p5:PySem.W.keepIn K (.ref x)=true
section
variable{K:RC}{h:Heap}{mg:RF}{n q:Str}{st:Stmt}{x C:Addr}{fd:FuncData}
def KZ(a:PySem.W.nsIn K mainGlobals n=some (some (.ref x)))(f:zJ K n n st x fd):Dp K n st:=⟨⟨x,fd⟩,a,f⟩
def Oc(a:PySem.W.findIn K (.ref C) n=some (some (.ref x)))(i:PySem.W.isFn K (.ref x)=true)(f:zJ K n q st x fd):Mp K C n q st:=⟨⟨x,fd⟩,a,i,f⟩
def He(a:PySem.W.nsIn K mainGlobals n=some (some (.ref x))):Gp K n x:=a
def Np(a:PySem.W.nsIn K mainGlobals n=some none):Zp K n:=a
def Ox(a:PySem.W.excIn K x [.type "ValueError",.type "Exception",.type "BaseException",.type "object"] "ValueError.__new__"=true):nI K x:=a
def Dl(a:PySem.W.findIn K (.ref C) n=some none):aU K C n:=a
def Gp.m(a:Gp K n x)(X:K.In h)(G:h.Ns mainGlobals mg):mg n=some (.ref x):=PySem.W.mg_of X G a
def Zp.m(a:Zp K n)(X:K.In h)(G:h.Ns mainGlobals mg):mg n=none:=PySem.W.mg_none_of X G a
def Ip.m{i:Int}(a:Ip K n i)(X:K.In h)(G:h.Ns mainGlobals mg):∃u,mg n=some u/\aV (.int i) u:=a.elim λ_ e=>⟨_,PySem.W.mg_of X G e,_,rfl⟩
def OW.m{i:Str}(a:OW K n i)(X:K.In h)(G:h.Ns mainGlobals mg):∃u,mg n=some u/\aV (.str i) u:=a.elim λ_ e=>⟨_,PySem.W.mg_of X G e,_,rfl⟩
abbrev Nj(st:Stmt)(n q:Str)(kV a pm:Value)(c:Option Addr)(b ct:Value)(d:RG):=bindArgs (PySem.W.fnOf n q (pZ st) (gr st) (aj st) .none kV a pm c b ct) ⟨d,[]⟩
variable{p1 p2 p3 p4 p5 b:Str}
def b1(F:zJ K n q st x fd)(h:∀kV a pm d c ct u,Nj st n q kV a pm d c ct [u]=pure [(p1,u)]:=by intros;rfl):gz K fd [p1] []:=F.binds λkV a pm d c ct e f=>match e,f with|[u],_=>h kV a pm d c ct u
def b2(F:zJ K n q st x fd)(h:∀kV a pm d c ct u v,Nj st n q kV a pm d c ct [u,v]=pure [(p1,u),(p2,v)]:=by intros;rfl):gz K fd [p1,p2] []:=F.binds λkV a pm d c ct e f=>match e,f with|[u,v],_=>h kV a pm d c ct u v
def b3(F:zJ K n q st x fd)(h:∀kV a pm d c ct u v w,Nj st n q kV a pm d c ct [u,v,w]=pure [(p1,u),(p2,v),(p3,w)]:=by intros;rfl):gz K fd [p1,p2,p3] []:=F.binds λkV a pm d c ct e f=>match e,f with|[u,v,w],_=>h kV a pm d c ct u v w
def b4(F:zJ K n q st x fd)(h:∀kV a pm d c ct u v w y,Nj st n q kV a pm d c ct [u,v,w,y]=pure [(p1,u),(p2,v),(p3,w),(p4,y)]:=by intros;rfl):gz K fd [p1,p2,p3,p4] []:=F.binds λkV a pm d c ct e f=>match e,f with|[u,v,w,y],_=>h kV a pm d c ct u v w y
def b5(F:zJ K n q st x fd)(h:∀kV a pm d c ct u v w y z,Nj st n q kV a pm d c ct [u,v,w,y,z]=pure [(p1,u),(p2,v),(p3,w),(p4,y),(p5,z)]:=by intros;rfl):gz K fd [p1,p2,p3,p4,p5] []:=F.binds λkV a pm d c ct e f=>match e,f with|[u,v,w,y,z],_=>h kV a pm d c ct u v w y z
def b6(F:zJ K n q st x fd)(h:∀kV a pm d c ct u v w y z r,Nj st n q kV a pm d c ct [u,v,w,y,z,r]=pure [(p1,u),(p2,v),(p3,w),(p4,y),(p5,z),(b,r)]:=by intros;rfl):gz K fd [p1,p2,p3,p4,p5,b] []:=F.binds λkV a pm d c ct e f=>match e,f with|[u,v,w,y,z,r],_=>h kV a pm d c ct u v w y z r
end
def cd{i j:Int}(h:decide (0<j/\j<1073741824)=true):fh i j:=(lh h:0<j/\j<1073741824)
def ls{n:Nat}(h:Nat.ble n 65536=true):n<=sizeLine:=dn (Nat.le_of_ble_eq_true h)
section
variable{X:Cx}{n:Str}{st:Stmt}{a:AF}{l:RI}{sp:Sp}{j k:Nat}{e:Expr}{h:RJ}{t:TA}{p c:Pos}
def pc(D:Df X.K X.mg n st a l)(F:aP X.prog X.w X.K X.mg X.base dI j a.x a.d l sp)(o:eK k X.A)(q:PA X (e::h) t)(r:j<=k:=by decide)(hg:Gl X n:=by rfl)(g:(n==("__debug__":Str))=false:=by decide)(s:starEach (e::h) X.env=(false,eval e X.env)::starEach h X.env:=by rfl)(i:(backTo c (starEach h X.env)).any (·.1)=false:=by rfl):PE X (.Call (.Name n p) (e::h) [] c) (KM sp [] E0 t):=bP (F.mono r) o hg D.m D.f.kp D.b .nil bx q g s i
def bf(i:Nat){x:Str}{te:TE}{b:Pos}(f:X.N.Nodup)(g:PE X e te)(hi:X.N[i]?=some x:=by rfl)(d:X.env.scope.names.lookup x=some .local:=by rfl)(o:swapsWith e (some (.Name x b)) c.line X.env=pure false:=by rfl):PS X (.Assign [.Name x b] e c) (zT te (i0 i)):=uO f hi (.inl d) g o (.inr d)
def pF(i:Nat){x:Str}(d:X.N.Nodup)(hi:X.N[i]?=some x:=by rfl)(b:X.env.scope.names.lookup x=some .local:=by rfl):PG X (.Name x c) (i0 i):=Db d hi (.inl b) (.inr b)
def nz(N0 b:RI)(i:Nat){x:Str}(d:(N0++b).Nodup:=by decide+kernel)(f:X.N=N0++b:=by rfl)(hi:(N0++b)[i]?=some x:=by rfl)(g:MZ X.env.scope x:=by first|exact Or.inl rfl|exact Or.inr rfl)(o:X.fn x=true\/X.env.scope.names.lookup x=some .local:=by first|exact .inl rfl|exact .inr rfl):PG X (.Name x c) (i0 i):=by rw[<-f]at d hi;exact Db d hi g o
def wb(N0 b:RI)(ds q:RL)(f:Scope){i r d:Expr}{o:RJ}{scope:Scope}{v:TI}{g:TG}{tc:TT}{te:TE}(hg:GK g q)(hi:PI X r d v)(w:∀cl C s₀ H₀ ex,PG (X.comp scope (N0++b) cl C s₀ H₀ ex) r g/\KD (X.comp scope (N0++b) cl C s₀ H₀ ex) o tc/\PE (X.comp scope (N0++b) cl C s₀ H₀ ex) i te)(hc:X.calm=true:=by rfl)(s:X.N=N0:=by rfl)(u:X.env.scope=f:=by rfl)(ok:rY N0 ds f scope=true:=by decide+kernel)(y:(q.all λj=>ds.contains j||decide (N0.length<=j))=true:=by decide+kernel)(z:∀x,foldedSetIterable d X.env x=pure x:=by intro _;rfl):PE X (.ListComp i [⟨r,d,o,0⟩] scope c) (uo v g ds b.length tc te):=Kl N0 b ds q f hc s u ok y hg hi w z
def HE(i:Nat)(N0 b:RI)(ds v:RL)(f:Scope){x:Str}{o q:Pos}{r u d:Expr}{s:RJ}{scope:Scope}{D:TI}{g:TG}{tc:TT}{te:TE}(hg:GK g v)(hi:PI X u d D)(E:∀cl C s₀ H₀ ex,PG (X.comp scope (N0++b) cl C s₀ H₀ ex) u g/\KD (X.comp scope (N0++b) cl C s₀ H₀ ex) s tc/\PE (X.comp scope (N0++b) cl C s₀ H₀ ex) r te)(w:N0.Nodup)(hc:X.calm=true:=by rfl)(y:X.N=N0:=by rfl)(z:X.env.scope=f:=by rfl)(ok:rY N0 ds f scope=true:=by decide+kernel)(F:(v.all λj=>ds.contains j||decide (N0.length<=j))=true:=by decide+kernel)(A:N0[i]?=some x:=by rfl)(G:f.names.lookup x=some .local:=by rfl)(B:swapsWith (.ListComp r [⟨u,d,s,0⟩] scope c) (some (.Name x o)) q.line X.env=pure true:=by rfl)(H:∀x,foldedSetIterable d X.env x=pure x:=by intro _;rfl):PS X (.Assign [.Name x o] (.ListComp r [⟨u,d,s,0⟩] scope c) q) (zT (uo D g ds b.length tc te) (i0 i)):=HI N0 b ds v f hc y z ok F hg hi E w A G B H
def iF(K:RC){a b:Expr}{d f:TE}(g:PE X a d)(i:PE X b f)(o:X.K=K:=by rfl)(q:zH b:=by intro _ _;rfl):PE X (.Subscript a b c) (M9 (LX K) d f):=Aq (G3 K o) g i q
def cS(K:RC){a b:Expr}{d f:TE}(g:PE X a d)(i:PE X b f)(o:X.K=K:=by rfl)(q:zH b:=by intro _ _;rfl):PE X (.Subscript a b c) (M9 (LW K) d f):=Aq (J3 K o) g i q
end
section
variable{P:RH}{w:World}{K:RC}{mg:RF}{base:Heap}{n q:Str}{st:Stmt}{a:AF}{C:Addr}{N b:RI}{k:Nat}{sp:Sp}
theorem Df.ok(D:Df K mg n st a b)(S:ay N b (aj st))(c:∀(e:Value)(A:Around)(outer:List Env)(s:Shared)(H:Hp)(g:List V)(Q:VK)(E:XK),eK k (A.deeper (envOfC n (aj st) s.heap.objs.size a.x e))->sp g H Q E->∃t,xc (rT dI P w K mg base N n (aj st) a.x e A outer s H E).nox (gr st) t/\t {nx:=λ_ i=>Q .non i,rt:=Q} (jp N g) H)(len:∀g H Q E,sp g H Q E->g.length=b.length:=by intro _ _ _ _ h;cases h;subst_vars;rfl):aP P w K mg base dI (k+1) a.x a.d b sp:=D.f.ok S len c
theorem Mf.ok(D:Mf K C n q st a b)(S:ay N b (aj st))(c:∀(e:Value)(A:Around)(outer:List Env)(s:Shared)(H:Hp)(g:List V)(Q:VK)(E:XK),eK k (A.deeper (envOfC q (aj st) s.heap.objs.size a.x e))->sp g H Q E->∃t,xc (rT dI P w K mg base N q (aj st) a.x e A outer s H E).nox (gr st) t/\t {nx:=λ_ i=>Q .non i,rt:=Q} (jp N g) H)(len:∀g H Q E,sp g H Q E->g.length=b.length:=by intro _ _ _ _ h;cases h;subst_vars;rfl):aP P w K mg base dI (k+1) a.x a.d b sp:=D.f.ok S len c
theorem Df.okE(D:Df K mg n st a b)(S:ay N b (aj st))(c:∀(e:Value)(A:Around)(outer:List Env)(s:Shared)(H:Hp)(g:List V)(Q:VK)(E:XK),eK k (A.deeper (envOfC n (aj st) s.heap.objs.size a.x e))->sp g H Q E->∃t,xc (rT (yd P w) P w K mg base N n (aj st) a.x e A outer s H E) (gr st) t/\t {nx:=λ_ i=>Q .non i,rt:=Q} (jp N g) H)(len:∀g H Q E,sp g H Q E->g.length=b.length:=by intro _ _ _ _ h;cases h;subst_vars;rfl):aP P w K mg base (yd P w) (k+1) a.x a.d b sp:=D.f.okE S len c
theorem Mf.okE(D:Mf K C n q st a b)(S:ay N b (aj st))(c:∀(e:Value)(A:Around)(outer:List Env)(s:Shared)(H:Hp)(g:List V)(Q:VK)(E:XK),eK k (A.deeper (envOfC q (aj st) s.heap.objs.size a.x e))->sp g H Q E->∃t,xc (rT (yd P w) P w K mg base N q (aj st) a.x e A outer s H E) (gr st) t/\t {nx:=λ_ i=>Q .non i,rt:=Q} (jp N g) H)(len:∀g H Q E,sp g H Q E->g.length=b.length:=by intro _ _ _ _ h;cases h;subst_vars;rfl):aP P w K mg base (yd P w) (k+1) a.x a.d b sp:=D.f.okE S len c
end
end L2
namespace L2
open PySem PySem.Spec PyProof.Rows PySem.W
def Hg(K:RC)(i j k:Nat):GK (Kc K 3 (xH (i0 i) (xH (i0 j) (xH (i0 k) Mz)))) [i,j,k]:=λx s H Q h=>by obtain⟨a,b,e,c,d,v,r,f,u,r2,g,l,m,o,p,q⟩:=h;refine⟨a,b,e,c,d,v,r,f,u,r2,g,l,m,o,p,q,by simp,λn hn=>?_⟩;have h1:n≠i:=λz=>hn (by simp[z]);have h2:n≠j:=λz=>hn (by simp[z]);have h3:n≠k:=λz=>hn (by simp[z]);rw[oD (o_ h3),oD (o_ h2),oD (o_ h1)]
section
variable{X:Cx}
theorem zP:∀{e d:RI},PyData.eqvAll (e.map PyData.str) (d.map PyData.str)=true->e=d|[],[],_=>rfl|[],_::_,h=>by cases h|_::_,[],h=>by cases h|x::r,y::q,h=>by rw[np,np,PyData.eqvAll,n7]at h;rw[zP h.2,eq_of_beq (show(x==y)=true from h.1)]
def KO(K:RC):R2:=λx y H Q=>∃(p:Addr)(a:List V)(d:RI)(ds:List (List Str)),y=.ref p/\aO K H p a/\DG K H x (qE d)/\IsPs K H a (ds.map qE)/\Q (.bl (!decide (d∈ds))) H
def Jx(D:X.A.units+65<cLine):lS X (compareOp .NotIn) (KO X.K):=by
 intro j s E H x y v u Q I k l h;obtain⟨p,F,d,ds,rfl,m,n,o,q⟩:=h;cases l;obtain⟨a,r,pl,G⟩:=I.list m;obtain⟨J,t⟩:=n.reads I k;obtain⟨z,B⟩:=IsPs.mem I o r;have at_:∀{w:Value}{e:RI}{bs:RM},Reads s.heap w (qE e) bs->SeqAt.EqAt X.A.in1 s w v (PyData.eqv (qE e) (qE d)):=λC=>Ll C t (by show X.A.units+1<cLine;lia)
 classical
 refine SeqAt.notIn_listAt (λw=>decide (∃e∈ds,PyData.eqv (qE e) (qE d)=true/\∃bs,Reads s.heap w (qE e) bs)) pl.isList (λw f=>?_) ⟨.bl _,H,I,rfl,?_⟩
 ·by_cases c:∃e∈ds,PyData.eqv (qE e) (qE d)=true/\∃bs,Reads s.heap w (qE e) bs
  ·rw[m3 c];obtain⟨e,b,h1,bs,h2⟩:=c;rw[<-h1];exact at_ h2
  ·rw[nk c];obtain⟨L,i,bs,h2⟩:=z w (by simpa using f);obtain⟨e,b,rfl⟩:=mo.mp i;have h1:PyData.eqv (qE e) (qE d)=false:=by cases g:PyData.eqv (qE e) (qE d)with|false=>rfl|true=>exact absurd ⟨e,b,g,bs,h2⟩ c
   rw[<-h1];exact at_ h2
 ·rw[show(a.toArray.any λw=>decide (∃e∈ds,PyData.eqv (qE e) (qE d)=true/\∃bs,Reads s.heap w (qE e) bs))=decide (d∈ds)by
   by_cases hd:d∈ds
   ·obtain⟨w,f,bs,h2⟩:=B (qE d) (mo.mpr ⟨d,hd,rfl⟩);rw[m3 hd,Array.any_eq_true'];exact⟨w,by simpa using f,m3 ⟨d,hd,ul d,bs,h2⟩⟩
   ·rw[nk hd];cases g:(a.toArray.any λw=>decide (∃e∈ds,PyData.eqv (qE e) (qE d)=true/\∃bs,Reads s.heap w (qE e) bs))with|false=>rfl|true=>rw[Array.any_eq_true']at g;obtain⟨w,_,g⟩:=g;obtain⟨e,b,h1,_⟩:=lh g;rw[zP h1]at b;exact absurd b hd]
  exact q
def Gh(K:RC)(a:X.K=K)(b:X.A.units+65<cLine):lS X (compareOp .NotIn) (KO K):=by subst a;exact Jx b
end
end L2
namespace My
open PySem L2
seal L2.xc L2.PS L2.PE L2.PT L2.PA L2.PI L2.PG L2.PW L2.MV L2.PO
def gA(i:Nat):Stmt:=PySem.Challenge.pw_layersplit_k23_shut_out.main.body.getD i (.Pass ⟨0,0,0,0⟩)
abbrev sJ(c i:Nat):Stmt:=(Km (gA c)).getD i (.Pass ⟨0,0,0,0⟩)
abbrev oy:Stmt:=gA 20
abbrev i4:Stmt:=gA 21
abbrev qJ:Stmt:=gA 22
abbrev oA:Stmt:=gA 23
abbrev lz:Stmt:=gA 28
abbrev oq:Stmt:=gA 29
abbrev mw:Stmt:=gA 35
abbrev qM:Stmt:=gA 36
abbrev iI:Stmt:=gA 37
abbrev oC:Stmt:=gA 38
abbrev lH:Stmt:=gA 39
abbrev lx:Stmt:=gA 40
abbrev qL:Stmt:=gA 41
abbrev pz:Stmt:=gA 42
abbrev oB:Stmt:=gA 48
abbrev qK:Stmt:=gA 49
abbrev oz:Stmt:=gA 50
abbrev mq:Stmt:=gA 51
abbrev i5:Stmt:=gA 52
abbrev iz:Stmt:=gA 53
abbrev lG:Stmt:=gA 54
abbrev km:Stmt:=gA 55
abbrev lA:Stmt:=gA 56
abbrev kn:Stmt:=gA 57
abbrev kj:Stmt:=gA 58
abbrev lB:Stmt:=gA 59
abbrev mx:Stmt:=gA 60
abbrev gC:Stmt:=gA 61
abbrev iy:Stmt:=gA 64
abbrev lF:Stmt:=gA 65
abbrev ki:Stmt:=gA 66
abbrev ko:Stmt:=gA 67
abbrev ju:Stmt:=gA 68
abbrev iP:Stmt:=gA 69
abbrev lD:Stmt:=gA 70
abbrev kh:Stmt:=gA 71
abbrev lC:Stmt:=gA 72
abbrev lE:Stmt:=gA 73
abbrev ox:Stmt:=gA 75
abbrev yt:Stmt:=gA 76
abbrev ou:Stmt:=gA 78
abbrev jw:Stmt:=sJ 80 0
abbrev gD:Stmt:=sJ 80 1
abbrev ga:Stmt:=sJ 80 2
abbrev i7:Stmt:=sJ 80 3
abbrev i6:Stmt:=sJ 80 4
abbrev gb:Stmt:=sJ 80 5
abbrev lI:Stmt:=sJ 80 6
abbrev jx:Stmt:=sJ 83 0
abbrev jv:Stmt:=sJ 84 0
abbrev jz:Stmt:=sJ 85 0
abbrev oF:Stmt:=sJ 85 1
abbrev lL:Stmt:=sJ 85 2
abbrev gI:Stmt:=sJ 85 3
abbrev gG:Stmt:=sJ 85 4
abbrev dC:Stmt:=sJ 85 5
abbrev iR:Stmt:=sJ 85 6
abbrev gH:Stmt:=sJ 85 7
abbrev gJ:Stmt:=sJ 85 8
abbrev jy:Stmt:=sJ 85 9
abbrev gF:Stmt:=sJ 85 10
abbrev iQ:Stmt:=sJ 85 11
abbrev dA:Stmt:=sJ 85 12
abbrev eU:Stmt:=sJ 85 13
abbrev gE:Stmt:=sJ 85 14
abbrev fj:Stmt:=sJ 85 20
abbrev lK:Stmt:=sJ 85 21
abbrev oE:Stmt:=gA 87
abbrev uM:Stmt:=gA 88
abbrev yu:Stmt:=gA 89
abbrev uN:Stmt:=gA 90
abbrev yx:Stmt:=gA 91
abbrev pA:Stmt:=gA 92
abbrev yz:Stmt:=gA 94
abbrev lJ:Stmt:=gA 95
abbrev i8:Stmt:=gA 96
abbrev my:Stmt:=gA 97
abbrev yA:Stmt:=gA 98
abbrev yy:Stmt:=gA 99
abbrev yw:Stmt:=gA 100
abbrev pB:Stmt:=gA 101
abbrev C7:Stmt:=gA 102
set_option genInjectivity false in
set_option genSizeOf false in
structure jl where(gp fB eE kZ kY kO eV ni jk cq bU kG nh dL fm ng kX jf gT fT k8 fP fD dq fO gP gQ bM fM gS fN fQ eW ee gR fL eO eP kS xO kP dU cU bq dS dR cJ fG dX dQ dZ gw fJ cY cX bE dz ce cZ dY cW cx cf cV cb eR fI jK dW sW oU eJ oT x4 gX gW su x5 xZ xY x6 law:AF)(bN eQ fq bu vL DF Ij Ih K4 DA Ik Ii DD Bv DE sw mO eZ vO:Addr)pm:Params
structure Txt(K:RC)(mg:RF)(a:jl):Prop where
 gp:Df K mg "is_whole" oy a.gp ["thing"]fB:Df K mg "is_text_of" i4 a.fB ["thing","signs","longest"]eE:Df K mg "is_word" qJ a.eE ["thing"]kZ:Df K mg "is_guest" oA a.kZ ["thing"]kY:Df K mg "is_prime" lz a.kY ["thing"]kO:Df K mg "point_of" oq a.kO ["p","salt","guest"]eV:Df K mg "is_number" mw a.eV ["thing"]ni:Df K mg "is_mark" qM a.ni ["thing"]jk:Df K mg "are_marks" iI a.jk ["thing"]cq:Df K mg "has_form" oC a.cq ["thing","depth"]bU:Df K mg "all_within" lH a.bU ["rule"]kG:Df K mg "words_of" lx a.kG ["rule"]nh:Df K mg "is_rule" qL a.nh ["thing"]dL:Df K mg "holds" pz a.dL ["rule","marks"]fm:Df K mg "is_count" oB a.fm ["thing"]ng:Df K mg "is_salt" qK a.ng ["thing"]kX:Df K mg "is_total" oz a.kX ["thing"]jf:Df K mg "is_weight" mq a.jf ["thing"]gT:Df K mg "are_counts" i5 a.gT ["thing","many"]fT:Df K mg "are_weights" iz a.fT ["thing","many"]k8:Df K mg "are_arms" lG a.k8 ["thing"]fP:Df K mg "check_house" km a.fP ["prime","salt"]fD:Df K mg "check_word" lA a.fD ["thing"]dq:Df K mg "check_guest" kn a.dq ["thing"]fO:Df K mg "check_marks" kj a.fO ["thing"]gP:Df K mg "check_rule" lB a.gP ["thing"]gQ:Df K mg "check_new" mx a.gQ ["thing","names"]bM:Df K mg "check_standing" gC a.bM ["thing","names"]fM:Df K mg "check_slope" iy a.fM ["thing","prime","layers"]gS:Df K mg "check_arms" lF a.gS ["thing"]fN:Df K mg "check_shuts" ki a.fN ["thing","trials"]fQ:Df K mg "check_count" ko a.fQ ["thing"]eW:Df K mg "check_shares" ju a.eW ["thing","many"]ee:Df K mg "check_dealing" iP a.ee ["total","weights","many"]gR:Df K mg "check_form" lD a.gR ["deed"]fL:Df K mg "check_trial" kh a.fL ["deed","layers","trials"]eO:Df K mg "check_open" lC a.eO ["deed","trials"]eP:Df K mg "check_deed" lE a.eP ["deed","prime","layers","trials"]kS:Df K mg "most_due" ox a.kS ["weights","given"]xO:Df K mg "dealt" yt a.xO ["total","weights"]kP:Df K mg "place_of" ou a.kP ["p","slope","point"]dU:Mf K a.bN "__init__" "Table.__init__" jw a.dU ["self","many"]cU:Mf K a.bN "owner_of" "Table.owner_of" gD a.cU ["self","place"]bq:Mf K a.bN "places_of" "Table.places_of" ga a.bq ["self","owner"]dS:Mf K a.bN "free" "Table.free" i7 a.dS ["self"]dR:Mf K a.bN "told" "Table.told" i6 a.dR ["self","wanted"]cJ:Mf K a.bN "give_back" "Table.give_back" gb a.cJ ["self","owner","number"]fG:Mf K a.bN "take" "Table.take" lI a.fG ["self","owner","number"]dX:Mf K a.eQ "__init__" "Layer.__init__" jx a.dX ["self","slope","many"]dQ:Mf K a.fq "__init__" "Trial.__init__" jv a.dQ ["self","home","arms","rule","shuts"]dZ:Mf K a.bu "__init__" "House.__init__" jz a.dZ ["self","prime","salt"]gw:Mf K a.bu "do" "House.do" oF a.gw ["self","deed"]fJ:Mf K a.bu "done" "House.done" lL a.fJ ["self","deed"]cY:Mf K a.bu "do_layer" "House.do_layer" gI a.cY ["self","name","slope"]cX:Mf K a.bu "do_trial" "House.do_trial" gG a.cX ["self","name","trial"]bE:Mf K a.bu "do_share" "House.do_share" dC a.bE ["self","name","numbers"]dz:Mf K a.bu "do_hold" "House.do_hold" iR a.dz ["self","name","number"]ce:Mf K a.bu "do_pause" "House.do_pause" gH a.ce ["self","name","paused"]cZ:Mf K a.bu "do_close" "House.do_close" gJ a.cZ ["self","name"]dY:Mf K a.bu "do_bar" "House.do_bar" jy a.dY ["self","guest","name"]cW:Mf K a.bu "do_visit" "House.do_visit" gF a.cW ["self","guest","marks"]cx:Mf K a.bu "put_out" "House.put_out" iQ a.cx ["self","layer","guests"]cf:Mf K a.bu "after_visit" "House.after_visit" dA a.cf ["self","guest","marks"]cV:Mf K a.bu "seat_for" "House.seat_for" eU a.cV ["self","layer","guest","marks","been"]cb:Mf K a.bu "place_in" "House.place_in" gE a.cb ["self","layer","guest"]eR:Mf K a.bu "stand" "House.stand" fj a.eR ["self","guest"]fI:Mf K a.bu "ever" "House.ever" lK a.fI ["self","guest"]jK:Df K mg "_law_cell_at" oE a.jK ["_law_script","_law_k"]dW:Df K mg "_law_mixed" uM a.dW ["_law_script","_law_k","_law_salt"]sW:Df K mg "_law_word" yu a.sW ["_law_k","_law_number"]oU:Df K mg "_law_guest" uN a.oU ["_law_k","_law_number"]eJ:Df K mg "_law_rule" yx a.eJ ["_law_number","_law_high"]oT:Df K mg "_law_marks" pA a.oT ["_law_number"]x4:Df K mg "_law_plan" yz a.x4 ["_law_script"]gX:Df K mg "_law_new_layer" lJ a.gX ["_law_script","_law_plan_here"]gW:Df K mg "_law_new_trial" i8 a.gW ["_law_script","_law_plan_here","_law_number"]su:Df K mg "_law_share" my a.su ["_law_script","_law_plan_here","_law_k","_law_number"]x5:Df K mg "_law_deed" yA a.x5 ["_law_script","_law_plan_here","_law_k"]xZ:Df K mg "_law_rows" yy a.xZ ["_law_found","_law_due"]xY:Df K mg "_law_told" yw a.xY ["_law_house","_law_deed_here"]x6:Df K mg "_law_come" pB a.x6 ["_law_house","_law_deed_here","_law_shuts","_law_been"]law:Df K mg "law" C7 a.law ["_law_script"]Fc:∃u,mg "LETTERS"=some u/\aV (.str "abcdefghijklmnopqrstuvwxyz") u
 nW:∃u,mg "GUEST_SIGNS"=some u/\aV (.str "abcdefghijklmnopqrstuvwxyz0123456789") u
 vB:∃u,mg "LONGEST_WORD"=some u/\aV (.int 12) u
 tY:∃u,mg "LONGEST_GUEST"=some u/\aV (.int 24) u
 xa:∃u,mg "LEAST_PRIME"=some u/\aV (.int 2) u
 r6:∃u,mg "GREATEST_PRIME"=some u/\aV (.int 997) u
 Ko:∃u,mg "MIXER"=some u/\aV (.int 1009) u
 zA:∃u,mg "MOST_MARKS"=some u/\aV (.int 8) u
 vC:∃u,mg "DEEPEST_RULE"=some u/\aV (.int 6) u
 zy:∃u,mg "MOST_RULES"=some u/\aV (.int 30) u
 zv:∃u,mg "MOST_WORDS"=some u/\aV (.int 3) u
 Bm:∃u,mg "MOST_ARMS"=some u/\aV (.int 4) u
 zx:∃u,mg "MOST_SHUTS"=some u/\aV (.int 8) u
 zw:∃u,mg "MOST_TOTAL"=some u/\aV (.int 1000) u
 JO:mg "Table"=some (.ref a.bN)bv:zK K a.bN
 GD:L2.Mk K a.bN a.dU.x
 nR:aU K a.bN "many"d7:aU K a.bN "owners"gk:aU K a.bN "taken"JQ:mg "Layer"=some (.ref a.eQ)cg:zK K a.eQ
 GE:L2.Mk K a.eQ a.dX.x
 jE:aU K a.eQ "slope"gm:aU K a.eQ "table"bQ:aU K a.eQ "inside"JL:mg "Trial"=some (.ref a.fq)be:zK K a.fq
 GC:L2.Mk K a.fq a.dQ.x
 kx:aU K a.fq "home"iE:aU K a.fq "arms"nQ:aU K a.fq "rule"mF:aU K a.fq "shuts"iV:aU K a.fq "paused"d6:aU K a.fq "closed"iW:aU K a.fq "barred"JR:mg "House"=some (.ref a.bu)aF:zK K a.bu
 GF:L2.Mk K a.bu a.dZ.x
 cQ:aU K a.bu "own_prime"ka:aU K a.bu "own_salt"aX:aU K a.bu "layer_named"a9:aU K a.bu "trial_named"cR:aU K a.bu "came_into"mG:aU K a.bu "deeds"JP:mg "SplitError"=some (.ref a.vL)Ir:nI K a.vL
 Nd:mg "NoHouse"=some (.ref a.DF)MG:nI K a.DF
 Oj:mg "NoDeed"=some (.ref a.Ij)Nh:nI K a.Ij
 Oh:mg "NoWord"=some (.ref a.Ih)Nf:nI K a.Ih
 OT:mg "Taken"=some (.ref a.K4)Oy:nI K a.K4
 Na:mg "Unknown"=some (.ref a.DA)MD:nI K a.DA
 Ol:mg "NoArms"=some (.ref a.Ik)Ni:nI K a.Ik
 Oi:mg "NoRule"=some (.ref a.Ii)Ng:nI K a.Ii
 Nb:mg "NoShuts"=some (.ref a.DD)ME:nI K a.DD
 Mn:mg "NoNumber"=some (.ref a.Bv)KW:nI K a.Bv
 Nc:mg "NoMarks"=some (.ref a.DE)MF:nI K a.DE
 AQ:mg "Closed"=some (.ref a.sw)xL:nI K a.sw
 AO:mg "NoRoom"=some (.ref a.mO)xJ:nI K a.mO
 Ev:mg "LENGTHS"=some (.ref a.eZ)Cv:L2.KG K a.pm a.eZ
 rJ:∃tk,PySem.W.nsIn K a.eZ "layer"=some (some (.int 3 tk))rD:∃tk,PySem.W.nsIn K a.eZ "trial"=some (some (.int 6 tk))rE:∃tk,PySem.W.nsIn K a.eZ "share"=some (some (.int 3 tk))tU:∃tk,PySem.W.nsIn K a.eZ "deal"=some (some (.int 4 tk))tT:∃tk,PySem.W.nsIn K a.eZ "hold"=some (some (.int 3 tk))rH:∃tk,PySem.W.nsIn K a.eZ "pause"=some (some (.int 2 tk))wT:∃tk,PySem.W.nsIn K a.eZ "go"=some (some (.int 2 tk))rK:∃tk,PySem.W.nsIn K a.eZ "close"=some (some (.int 2 tk))vh:∃tk,PySem.W.nsIn K a.eZ "bar"=some (some (.int 3 tk))rC:∃tk,PySem.W.nsIn K a.eZ "visit"=some (some (.int 3 tk))GQ:mg "HELD"=some (.ref a.vO)Dr:L2.Pt K a.vO [.str "",.str ""]se:L2.Lb K a.sw a.mO
 xx:mg "all"=none
 Dm:mg "any"=none
 Mg:mg "bool"=none
 GA:mg "divmod"=none
 AJ:mg "enumerate"=none
 Ob:mg "int"=none
 bh:mg "isinstance"=none
 bp:mg "len"=none
 u7:mg "list"=none
 Oa:mg "max"=none
 Gz:mg "min"=none
 eD:mg "range"=none
 B8:mg "reversed"=none
 Gy:mg "set"=none
 AI:mg "sorted"=none
 Gx:mg "str"=none
 N9:mg "sum"=none
 dO:mg "tuple"=none
 N8:mg "zip"=none
def dJ{N P:RI}{h:Scope}(a:h.kind=.function:=by rfl)(b:h.isCoroutine=false:=by rfl)(c:h.isGenerator=false:=by rfl)(d:N.Nodup:=by decide+kernel)(e:N.take P.length=P:=by rfl)(f:∀x∈P,h.names.lookup x=some .local\/h.names.lookup x=some .cell:=by decide+kernel)(g:∀y∈h.names,y.2≠.free:=by decide+kernel):ay N P h:=⟨a,b,c,d,e,f,g⟩
def Ac:ay ["thing"] ["thing"] (aj oy):=dJ
abbrev lT:List Str:=["thing","signs","longest"]
def wj:ay lT ["thing","signs","longest"] (aj i4):=dJ
def BL:ay ["thing"] ["thing"] (aj qJ):=dJ
def Af:ay ["thing"] ["thing"] (aj oA):=dJ
def Ae:ay ["thing"] ["thing"] (aj lz):=dJ
def jX:ay ["p","salt","guest","mixed","sign"] ["p","salt","guest"] (aj oq):=dJ
def yp:ay ["thing"] ["thing"] (aj mw):=dJ
def BO:ay ["thing"] ["thing"] (aj qM):=dJ
def yr:ay ["thing"] ["thing"] (aj iI):=dJ
def mj:ay ["thing","depth","kind"] ["thing","depth"] (aj oC):=dJ
def iw:ay ["rule","found","inner"] ["rule"] (aj lH):=dJ
def Ab:ay ["rule"] ["rule"] (aj lx):=dJ
def BN:ay ["thing"] ["thing"] (aj qL):=dJ
abbrev qg:List Str:=["rule","marks","kind"]
def uC:ay qg ["rule","marks"] (aj pz):=dJ
def Ag:ay ["thing"] ["thing"] (aj oB):=dJ
def BM:ay ["thing"] ["thing"] (aj qK):=dJ
def Ad:ay ["thing"] ["thing"] (aj oz):=dJ
def yo:ay ["thing"] ["thing"] (aj mq):=dJ
abbrev jd:List Str:=["thing","many"]
def wu:ay jd ["thing","many"] (aj i5):=dJ
abbrev nY:List Str:=["thing","many"]
def uJ:ay nY ["thing","many"] (aj iz):=dJ
def Ah:ay ["thing"] ["thing"] (aj lG):=dJ
def uG:ay ["prime","salt"] ["prime","salt"] (aj km):=dJ
def wk:ay ["thing"] ["thing"] (aj lA):=dJ
def uH:ay ["thing"] ["thing"] (aj kn):=dJ
def uF:ay ["thing"] ["thing"] (aj kj):=dJ
def wm:ay ["thing"] ["thing"] (aj lB):=dJ
def yq:ay ["thing","names"] ["thing","names"] (aj mx):=dJ
def pi:ay ["thing","names"] ["thing","names"] (aj gC):=dJ
abbrev kB:List Str:=["thing","prime","layers"]
def uE:ay kB ["thing","prime","layers"] (aj iy):=dJ
def wq:ay ["thing"] ["thing"] (aj lF):=dJ
def jr:ay ["thing","trials","k","name"] ["thing","trials"] (aj ki):=dJ
def uI:ay ["thing"] ["thing"] (aj ko):=dJ
def tE:ay ["thing","many"] ["thing","many"] (aj ju):=dJ
def qH:ay ["total","weights","many"] ["total","weights","many"] (aj iP):=dJ
def wo:ay ["deed"] ["deed"] (aj lD):=dJ
def uD:ay ["deed","layers","trials"] ["deed","layers","trials"] (aj kh):=dJ
def kf:ay ["deed","trials","trial","many"] ["deed","trials"] (aj lC):=dJ
def nK:ay ["deed","prime","layers","trials","kind"] ["deed","prime","layers","trials"] (aj lE):=dJ
def jY:ay ["weights","given","best","k"] ["weights","given"] (aj ox):=dJ
def ph:ay ["total","weights","given","turn","k"] ["total","weights"] (aj yt):=dJ
def mi:ay ["p","slope","point","x","y"] ["p","slope","point"] (aj ou):=dJ
def tG:ay ["self","many"] ["self","many"] (aj jw):=dJ
def pj:ay ["self","place"] ["self","place"] (aj gD):=dJ
def oo:ay ["self","owner"] ["self","owner"] (aj ga):=dJ
def ww:ay ["self"] ["self"] (aj i7):=dJ
abbrev je:List Str:=["self","wanted","more","back","owner","number"]
def du:ay je ["self","wanted"] (aj i6):=dJ
def dN:ay ["self","owner","number","places","back","place"] ["self","owner","number"] (aj gb):=dJ
def ix:ay ["self","owner","number","places","more","place"] ["self","owner","number"] (aj lI):=dJ
def tH:ay ["self","slope","many"] ["self","slope","many"] (aj jx):=dJ
def tF:ay ["self","home","arms","rule","shuts"] ["self","home","arms","rule","shuts"] (aj jv):=dJ
def tI:ay ["self","prime","salt"] ["self","prime","salt"] (aj jz):=dJ
def sC:ay ["self","deed","answer"] ["self","deed"] (aj oF):=dJ
def nL:ay ["self","deed","kind"] ["self","deed"] (aj lL):=dJ
def py:ay ["self","name","slope"] ["self","name","slope"] (aj gI):=dJ
def px:ay ["self","name","trial"] ["self","name","trial"] (aj gG):=dJ
abbrev cO:List Str:=["self","name","numbers","trial","layer","back","guests"]
def dg:ay cO ["self","name","numbers"] (aj dC):=dJ
def qI:ay ["self","name","number"] ["self","name","number"] (aj iR):=dJ
def jZ:ay ["self","name","paused","trial"] ["self","name","paused"] (aj gH):=dJ
def j3:ay ["self","name","trial"] ["self","name"] (aj gJ):=dJ
def iO:ay ["self","guest","name","trial","layer"] ["self","guest","name"] (aj jy):=dJ
def cF:ay ["self","guest","marks","answer","name","trial","arm","layer"] ["self","guest","marks"] (aj gF):=dJ
def eT:ay ["self","layer","guests","out","guest","seat"] ["self","layer","guests"] (aj iQ):=dJ
abbrev ff:List Str:=["self","guest","marks","been","answer","name","layer","seat"]
def bC:ay ff ["self","guest","marks"] (aj dA):=dJ
abbrev gU:List Str:=["self","layer","guest","marks","been","owner","trial"]
def f9:ay gU ["self","layer","guest","marks","been"] (aj eU):=dJ
def pq:ay ["self","layer","guest"] ["self","layer","guest"] (aj gE):=dJ
abbrev dy:List Str:=["self","guest","standing"]
def mn:ay dy ["self","guest"] (aj fj):=dJ
def wx:ay ["self","guest"] ["self","guest"] (aj lK):=dJ
def Aj:ay ["_law_script","_law_k"] ["_law_script","_law_k"] (aj oE):=dJ
def kK:ay ["_law_script","_law_k","_law_salt","_law_cell","_law_lap","_law_near"] ["_law_script","_law_k","_law_salt"] (aj uM):=dJ
def pk:ay ["_law_k","_law_number","_law_some","_law_stem","_law_at"] ["_law_k","_law_number"] (aj yu):=dJ
def kM:ay ["_law_k","_law_number","_law_some","_law_stem","_law_at","_law_own"] ["_law_k","_law_number"] (aj uN):=dJ
def ml:ay ["_law_number","_law_high","_law_way","_law_some","_law_word_here"] ["_law_number","_law_high"] (aj yx):=dJ
abbrev vN:List Str:=["_law_number","_law_marks_here","_law_k","_law_word_here"]
def kL:ay vN ["_law_number"] (aj pA):=dJ
def uL:ay ["_law_script","_law_number","_law_prime"] ["_law_script"] (aj yz):=dJ
def kg:ay ["_law_script","_law_plan_here","_law_k","_law_name"] ["_law_script","_law_plan_here"] (aj lJ):=dJ
abbrev lU:List Str:=["_law_script","_law_plan_here","_law_number","_law_k","_law_name","_law_layer","_law_arms","_law_shuts","_law_more","_law_j"]
def cM:ay lU ["_law_script","_law_plan_here","_law_number"] (aj i8):=dJ
abbrev mP:List Str:=["_law_script","_law_plan_here","_law_k","_law_number","_law_trial","_law_most","_law_weights"]
def mU:ay mP ["_law_script","_law_plan_here","_law_k","_law_number"] (aj my):=dJ
def kN:ay ["_law_script","_law_plan_here","_law_k","_law_number","_law_some","_law_guest_here","_law_early","_law_trial"] ["_law_script","_law_plan_here","_law_k"] (aj yA):=dJ
def uK:ay ["_law_found","_law_due","_law_k","_law_j"] ["_law_found","_law_due"] (aj yy):=dJ
def Ai:ay ["_law_house","_law_deed_here","_law_found"] ["_law_house","_law_deed_here"] (aj yw):=dJ
abbrev lV:List Str:=["_law_house","_law_deed_here","_law_shuts","_law_been","_law_stood","_law_found","_law_come_here","_law_layer","_law_trial","_law_arm"]
def jt:ay lV ["_law_house","_law_deed_here","_law_shuts","_law_been"] (aj pB):=dJ
abbrev Il:List Str:=["_law_script","_law_plan_here","_law_house","_law_guests","_law_shuts","_law_been","_law_guest_here","_law_k","_law_deed_here","_law_more","_law_one","_law_come_here","_law_found"]
def f8:ay Il ["_law_script"] (aj C7):=dJ
variable{P:RH}{w:World}{K:RC}{mg:RF}{base:Heap}{a:jl}{H H':Hp}
inductive Fk{A0 A1:Type}(p:A0->A1->Prop):Prop|mk(x0:A0)(x1:A1)(h:p x0 x1)
inductive OH{A0 A1 A2:Type}(p:A0->A1->A2->Prop):Prop|mk(x0:A0)(x1:A1)(x2:A2)(h:p x0 x1 x2)
inductive Ex4{A0 A1 A2 A3:Type}(p:A0->A1->A2->A3->Prop):Prop|mk(x0:A0)(x1:A1)(x2:A2)(x3:A3)(h:p x0 x1 x2 x3)
structure Pw(p0 p1 p2 p3 p4:Prop):Prop where
 h0:p0
 h1:p1
 h2:p2
 h3:p3
 h4:p4
structure OJ(p0 p1 p2 p3 p4 p5 p6 p7 p8 p9:Prop):Prop where
 h0:p0
 h1:p1
 h2:p2
 h3:p3
 h4:p4
 h5:p5
 h6:p6
 h7:p7
 h8:p8
 h9:p9
structure OI(p0 p1 p2 p3 p4 p5 p6 p7 p8 p9 p10 p11 p12:Prop):Prop where
 h0:p0
 h1:p1
 h2:p2
 h3:p3
 h4:p4
 h5:p5
 h6:p6
 h7:p7
 h8:p8
 h9:p9
 h10:p10
 h11:p11
 h12:p12
@[irreducible]def xQ(ns:RN)(k:Int):Int:=if ns.length=0 then 0 else ns.getD (k%(ns.length:Int)).toNat 0
def Om(ns:RN)(k:Int):Int:=k/(if(ns.length:Int)>1 then(ns.length:Int)else 1)
def Gv(ns:RN)(k m:Int):Int:=(Builtin.bitAnd (xQ ns k) 2147483647+1009*k*k+7919*m*m+12)*48271%2147483647
@[irreducible]def cr(ns:RN)(k m:Int):Int:=(xQ ns k/2^(31*(m+128*Om ns k)).toNat+Gv ns k m*Gv ns k m%2147483629)%2147483648
def JF(ns:RN)(k m:Int):0<=cr ns k m/\cr ns k m<2147483648:=by unfold cr;exact bD _ (by decide)
inductive LN(K:RC)(vs:List V)(H:Hp)(Q:VK)(_E:XK):Prop|mk(a:Addr)(ns:RN)(k:Int)(_:vs=[.ref a,.int k])(_:aO K H a (ns.map V.int))(_:ns.length<=63)(_:Q (.int (xQ ns k)) H)
inductive IS(K:RC)(vs:List V)(H:Hp)(Q:VK)(_E:XK):Prop|mk(a:Addr)(ns:RN)(k m:Int)(_:vs=[.ref a,.int k,.int m])(_:aO K H a (ns.map V.int))(_:ns.length<=63)(_:(0<=k/\k<=1000000))(_:(0<=m/\m<=1000000))(_:Q (.int (cr ns k m)) H)
inductive FG(K:RC)(vs:List V)(H:Hp)(Q:VK)(_E:XK):Prop|mk(a:Addr)(ns:RN)(_:vs=[.ref a])(_:aO K H a (ns.map V.int))(_:ns.length<=63)(_:∀H',Q (.bl true) H')
section
variable{P:RH}{w:World}{K:RC}{mg:RF}{base:Heap}{a:jl}
def sH(T:Txt K mg a):aP P w K mg base dI 1 a.jK.x a.jK.d ["_law_script","_law_k"] (LN K):=by
 refine T.jK.ok Aj λe A outer s H f Q E g h=>?_
 ·obtain⟨p,ns,k,rfl,b,i,q⟩:=h;refine⟨_,(ag (aJ (aC aS (au (aG K rfl) (by rfl) T.bp L2.aH (ac (Y 0) ae)) af (aE _)) (ah (ax af)) aA) (ah (ax (iF K (Y 0) (av aR (Y 1) (au (aG K rfl) (by rfl) T.bp L2.aH (ac (Y 0) ae))))))),?_⟩
  refine U rfl ⟨_,ns.length,rfl,.inl ⟨_,b,by simp⟩,rfl,U rfl ?_⟩;unfold xQ at q;refine kW (λh0=>?_) (λh0=>?_)
  ·rw[i_ (by exact Int.ofNat_inj.mp h0)]at q;exact q
  have c:(0:Int)<(ns.length:Int):=by lia
  have hm:=bD k c;rw[ir (by lia)]at q;exact U rfl (U rfl (U rfl ⟨_,ns.length,rfl,.inl ⟨_,b,by simp⟩,_,U rfl ⟨rfl,c,rX b (nr hm.1 hm.2) q⟩⟩))
def cG(T:Txt K mg a):aP P w K mg base dI 2 a.dW.x a.dW.d ["_law_script","_law_k","_law_salt"] (IS K):=by
 refine T.dW.ok kK λj A outer s H v Q E l h=>?_
 ·obtain⟨p,ns,k,m,rfl,e,o,⟨r,y⟩,⟨z,B⟩,q⟩:=h;refine⟨_,(ag (bf 3 kK.nd (pc T.jK (sH T) l (ac (Y 0) (ac (Y 1) ae)))) (ag (bf 4 kK.nd (av bB (Y 1) (au (E7 rfl) (by rfl) T.Oa L2.HR (ac af (ac (au (aG K rfl) (by rfl) T.bp L2.aH (ac (Y 0) ae)) ae))))) (ag (bf 5 kK.nd (av bS (av bS (av bS (av Gi (Y 3) af) (av gL (av gL af (Y 1)) (Y 1))) (av gL (av gL af (Y 2)) (Y 2))) af)) (ag (bf 5 kK.nd (av aR (av gL (Y 5) af) af)) (ah (ax (av Gi (av bS (av L7 (Y 3) (av gL af (av bS (Y 2) (av gL af (Y 4))))) (av aR (av gL (Y 5) (Y 5)) af)) af))))))),?_⟩
  unfold cr Gv Om at q;refine U rfl (U rfl ⟨p,ns,k,rfl,e,o,?_⟩);generalize xQ ns k=c at q⊢;have hn:∃n:Int,n=(if(ns.length:Int)>1 then(ns.length:Int)else 1)/\0<n/\n<1073741824:=(U rfl ⟨by split<;>lia,by split<;>lia⟩);obtain⟨n,f,g,n1⟩:=hn;rw[<-f]at q;refine U rfl (U rfl ⟨_,ns.length,rfl,.inl ⟨_,e,by simp⟩,_,U rfl ⟨_,n,rfl,by rw[f],⟨g,n1⟩,?_⟩⟩);have t:0<=k/n:=Int.ediv_nonneg r (by exact Rc g)
  try dsimp only
  generalize k/n=u at t q⊢;refine U rfl (r2 (U rfl (r2 ⟨.inl ⟨by decide,by decide⟩,U rfl (r2 ⟨.inr ⟨by lia,by lia⟩,_,U rfl ⟨rfl,U rfl (r2 ⟨.inl ⟨by decide,by decide⟩,U rfl (r2 ⟨.inr ⟨by lia,by lia⟩,_,U rfl ⟨rfl,r2 ?_⟩⟩)⟩)⟩⟩)⟩)));refine U rfl (r2 ⟨.inr ⟨by decide,by decide⟩,_,U rfl ⟨rfl,(by show(0:Int)<_;first|decide|lia),?_⟩⟩);have b:=bD ((Builtin.bitAnd c 2147483647+1009*k*k+7919*m*m+12)*48271) (show(0:Int)<2147483647 by decide)
  try dsimp only
  generalize(Builtin.bitAnd c 2147483647+1009*k*k+7919*m*m+12)*48271%2147483647=i at b q⊢;refine U rfl (U rfl (U rfl (r2 ⟨.inl ⟨by decide,by decide⟩,_,U rfl ⟨rfl,r2 ⟨.inl ⟨by decide,by decide⟩,_,U rfl ⟨rfl,(by show(0:Int)<=_;lia),U rfl (U rfl (r2 ⟨.inl ⟨by lia,by lia⟩,_,U rfl ⟨rfl,(by show(0:Int)<_;first|decide|lia),_,U rfl ⟨rfl,r2 ?_⟩⟩⟩))⟩⟩⟩⟩)))
  try dsimp only
  rw[Mj];exact q
def Ez(T:Txt K mg a)(s:Shared)(u:Value):BindsTo s a.law.d ⟨[u],[]⟩ [("_law_script",u)]:=by obtain⟨oc,i,kV,b,pm,j,c,ct,g,e,k,h⟩:=T.law.f.ex;rw[e];exact .of_eq rfl
def Ey{p:Addr}{ns:RN}(b:ns.length<=63)(c:aO K H p (ns.map V.int)):FG K [.ref p] H (λv _=>v=.bl true) λ_ _ _=>False:=⟨p,ns,rfl,c,b,λ_=>rfl⟩
end
section
variable{j g:Type}{F G:j->g->Prop}{a c:List j}{b d:List g}
def Paired.mapM(h:Paired F a b)(f:∀x∈a,∀y,F x y->G x y):Paired G a b:=by induction h with|nil=>exact .nil|cons h _ e=>exact .cons (f _ l_ _ h) (e λx m=>f x (kw _ m))
def Paired.ex(h:Paired F a b):∀x∈a,∃y,F x y:=by induction h with|nil=>exactλx e=>(nomatch e)|cons h _ f=>
  intro x e;rcases pv.mp e with rfl|m
  ·exact⟨_,h⟩
  ·exact f x m
def Paired.at_(h:Paired F a b):∀(i:Nat)(x:j),a[i]?=some x->∃y,b[i]?=some y/\F x y:=by induction h with|nil=>exactλi x e=>(nomatch e)|cons h _ f=>intro i x e;cases i with|zero=>obtain rfl:=ji e;exact⟨_,rfl,h⟩|succ i=>exact f i x e
def qP(h:Paired F a b):∀(i:Nat)(y:g),b[i]?=some y->∃x,a[i]?=some x/\F x y:=by induction h with|nil=>exactλi x e=>(nomatch e)|cons h _ f=>intro i x e;cases i with|zero=>obtain rfl:=ji e;exact⟨_,rfl,h⟩|succ i=>exact f i x e
def qQ(h:Paired F a b)(k:Paired F c d):Paired F (a++c) (b++d):=by induction h with|nil=>exact k|cons h _ e=>exact .cons h e
end
inductive Ru where|any|has(w:Str)|least(w:Str)(n:Int)|not(q:Ru)|both(q r:Ru)|either(q r:Ru)
def Ru.hgt:Ru->Nat|.any=>1|.has _=>1|.least _ _=>1|.not q=>q.hgt+1|.both q r=>max q.hgt r.hgt+1|.either q r=>max q.hgt r.hgt+1
def Ru.hgt_pos:∀r:Ru,0<r.hgt|.any=>Nat.one_pos|.has _=>Nat.one_pos|.least _ _=>Nat.one_pos|.not _=>rd _|.both _ _=>rd _|.either _ _=>rd _
def Ow(w:Str)(m:Str×Int):Bool:=decide (V.str m.1=V.str w)
def gM(w:Str)(n:Int)(m:Str×Int):Bool:=if decide (V.str m.1=V.str w)=true then decide (n<=m.2)else false
def Ru.sat(b:List (Str×Int)):Ru->Bool|.any=>true|.has w=>(b.map (Ow w)).any id|.least w n=>(b.map (gM w n)).any id|.not q=>!q.sat b|.both q r=>if q.sat b=true then r.sat b else false|.either q r=>if q.sat b=true then true else r.sat b
inductive eY(K:RC)(H:Hp):Ru->V->Prop|any{a:Addr}:aT K H a [.str "any"]->eY K H .any (.ref a)|has{a:Addr}{w:Str}:aT K H a [.str "has",.str w]->eY K H (.has w) (.ref a)|least{a:Addr}{w:Str}{n:Int}:aT K H a [.str "least",.str w,.int n]->eY K H (.least w n) (.ref a)|not{a:Addr}{q:Ru}{v:V}:aT K H a [.str "not",v]->eY K H q v->eY K H (.not q) (.ref a)|both{a:Addr}{q r:Ru}{v u:V}:aT K H a [.str "both",v,u]->eY K H q v->eY K H r u->eY K H (.both q r) (.ref a)|either{a:Addr}{q r:Ru}{v u:V}:aT K H a [.str "either",v,u]->eY K H q v->eY K H r u->eY K H (.either q r) (.ref a)
def MT(H H':Hp):Prop:=∀u b,H u=some (.tup b)->H' u=some (.tup b)
def MT.sq{a:Addr}{c:List V}(e:MT H H')(d:∀u o,(∃b,H u=some (.frz b o))->∃b,H' u=some (.frz b o))(h:aT K H a c):aT K H' a c:=by
 rcases h with h|h
 ·rcases h with h|h
  ·exact .inl (.inl (e _ _ h))
  ·exact .inl (.inr (d _ _ h))
 ·exact .inr h
structure Kp(H H':Hp):Prop where
 tp:MT H H'
 fz:∀u o,(∃o',H u=some (.frz o' o))->∃o',H' u=some (.frz o' o)
def Kp.trans(a:Kp H d)(b:Kp d e):Kp H e:=⟨λu c h=>b.tp u c (a.tp u c h),λu o h=>b.fz u o (a.fz u o h)⟩
def Kp.of(h:ao H H'):Kp H H':=⟨λu c e=>h u _ e,λu o⟨b,e⟩=>⟨b,h u _ e⟩⟩
theorem Kp.lst{a:Addr}{o:HO}{c:List V}(b:H a=some (.lst c)):Kp H (az H a o):=⟨λu f h=>by rw[am (λe=>by rw[e,b]at h;cases h)];exact h,λu o⟨d,h⟩=>⟨d,by rw[am (λe=>by rw[e,b]at h;cases h)];exact h⟩⟩
def Kp.new{a:Addr}{o:HO}(hn:H a=none):Kp H (az H a o):=.of (ai (ao.refl H) hn)
def Kp.tq{a:Addr}{b:List V}(e:Kp H H')(h:aT K H a b):aT K H' a b:=e.tp.sq e.fz h
def eY.kp(e:Kp H H')(h:eY K H r v):eY K H' r v:=by induction h with|any h=>exact .any (e.tq h)|has h=>exact .has (e.tq h)|least h=>exact .least (e.tq h)|not h _ q=>exact .not (e.tq h) q|both h _ _ q r=>exact .both (e.tq h) q r|either h _ _ q r=>exact .either (e.tq h) q r
def tZ(K:RC)(H:Hp)(d:List (Str×Int))(v:V):Prop:=∃a c,v=.ref a/\aT K H a c/\c.length=d.length/\∀(i:Nat)(m:Str×Int),d[i]?=some m->∃b,c[i]?=some (.ref b)/\aT K H b [.str m.1,.int m.2]
def tZ.kp(e:Kp H H')(h:tZ K H c v):tZ K H' c v:=by obtain⟨a,d,h1,h2,h3,h4⟩:=h;exact⟨a,d,h1,e.tq h2,h3,λi m hm=>let⟨b,f,g⟩:=h4 i m hm;⟨b,f,e.tq g⟩⟩
def um{b c:Type}{f:b->c}{l:List b}{i:Nat}{m:b}(h:l[i]?=some m):(l.take (i+1)).map f=(l.take i).map f++[f m]:=by rw[F_,h,il];rfl
inductive kA(ws:RI):Ru->Prop|any:kA ws .any|has{w:Str}:w∈ws->kA ws (.has w)|least{w:Str}{n:Int}:w∈ws->-df<=n->n<=df->kA ws (.least w n)|not{q:Ru}:kA ws q->kA ws (.not q)|both{q r:Ru}:kA ws q->kA ws r->kA ws (.both q r)|either{q r:Ru}:kA ws q->kA ws r->kA ws (.either q r)
def qF:(100:Int)<=df:=by have:=xk;lia
def Ru.subs:Ru->List Ru|.any=>[.any]|.has w=>[.has w]|.least w n=>[.least w n]|.not q=>.not q::q.subs|.both q r=>.both q r::(q.subs++r.subs)|.either q r=>.either q r::(q.subs++r.subs)
def Ru.cnt(r:Ru):Nat:=r.subs.length
def Ru.words:Ru->List Str|.any=>[]|.has w=>[w]|.least w _=>[w]|.not q=>q.words|.both q r=>q.words++r.words|.either q r=>q.words++r.words
def Ru.word1:Ru->Option Str|.has w=>some w|.least w _=>some w|_=>none
theorem Ru.words_subs:∀r:Ru,r.subs.filterMap Ru.word1=r.words|.any=>rfl|.has _=>rfl|.least _ _=>rfl|.not q=>by show(Ru.not q::q.subs).filterMap Ru.word1=q.words;rw[Qt rfl,q.words_subs]|.both q r=>by show(Ru.both q r::(q.subs++r.subs)).filterMap Ru.word1=q.words++r.words;rw[Qt rfl,Es,q.words_subs,r.words_subs]|.either q r=>by show(Ru.either q r::(q.subs++r.subs)).filterMap Ru.word1=q.words++r.words;rw[Qt rfl,Es,q.words_subs,r.words_subs]
def C9{a b:Nat}:2^a+2^b<=2^(max a b+1):=by have h1:2^a<=2^max a b:=PB (by decide) (QL _ _);have h2:2^b<=2^max a b:=PB (by decide) (Qz _ _);rw[QF];lia
theorem Ru.cnt_lt:∀r:Ru,r.cnt+1<=2^r.hgt|.any=>f_ _|.has _=>f_ _|.least _ _=>f_ _|.not q=>by have h:=q.cnt_lt;show(q.subs.length+1)+1<=2^(q.hgt+1);unfold Ru.cnt at h;rw[QF];have:=q.hgt_pos;have:2^1<=2^q.hgt:=PB (by decide) this;lia|.both q r=>by have h1:=q.cnt_lt;have h2:=r.cnt_lt;show((q.subs++r.subs).length+1)+1<=2^(max q.hgt r.hgt+1);unfold Ru.cnt at h1 h2;rw[iA];have:=C9 (a:=q.hgt) (b:=r.hgt);lia|.either q r=>by have h1:=q.cnt_lt;have h2:=r.cnt_lt;show((q.subs++r.subs).length+1)+1<=2^(max q.hgt r.hgt+1);unfold Ru.cnt at h1 h2;rw[iA];have:=C9 (a:=q.hgt) (b:=r.hgt);lia
def Ru.words_le(r:Ru):r.words.length<=r.cnt:=by rw[<-r.words_subs];exact PU _ _
structure Bt(s:Str)(m:Nat)(x:Str):Prop where
 lo:1<=x.length
 hi:x.length<=m
 cs:∀c∈x.cps.toList,c∈s.cps.toList
abbrev va:Str:="abcdefghijklmnopqrstuvwxyz"
abbrev kz:Str:="abcdefghijklmnopqrstuvwxyz0123456789"
abbrev Wd:Str->Prop:=Bt va 12
abbrev Bw:Str->Prop:=Bt kz 24
def GU(x:Str):x.cps.toList.length=x.length:=by show x.cps.toList.length=x.cps.size;simp
def FZ:List Str:=["ab","ba","b","a","aab","abab","bab","aa","abb","baa","bb","soap"]
def C3:Nat->Str|0=>""|1=>"soap"|2=>"upperlayer"|_=>"z"
def jW(N:Int):Str:=C3 (N%4).toNat
def Fe(N:Int):Int:=N/4%(((jW N).length:Int)+1)
def pP(k:Nat):Str:=⟨#[97+k]⟩
def xo(i:Nat):Str:=(FZ[i]?).getD "a"
def GH(z:Str)(i:Int)(c:Nat):Str:=Txt.slice z none (some i)++pP c++Txt.slice z (some i) none
def cL(k N:Int):Str:=if N/40%2=1 then xo ((k+N/80)%12).toNat else GH (jW N) (Fe N) ((k+N/80)%26).toNat
def M8(x:Str):Bool:=decide (1<=x.length)&&decide (x.length<=12)&&x.cps.toList.all λc=>decide (c∈va.cps.toList)
def CZ(h:M8 x=true):Wd x:=by unfold M8 at h;rw[n7,n7]at h;exact⟨lh h.1.1,lh h.1.2,λc hc=>lh (List.all_eq_true.mp h.2 c hc)⟩
def Jg:∀i∈List.range 12,M8 (xo i)=true:=by decide+kernel
def FV:∀i∈List.range 12,∀j∈List.range 12,xo i=xo j->i=j:=by decide+kernel
def Mh:∀r∈List.range 4,∀i∈List.range 11,∀c∈List.range 26,M8 (GH (C3 r) (i:Int) c)=true:=by decide+kernel
def D5(r:Nat):(C3 r).length<=10:=by
 unfold C3
 split<;>decide+kernel
def xn(N:Int):(jW N).length<=10:=D5 _
def HV(N:Int):0<=Fe N/\Fe N<((jW N).length:Int)+1:=⟨Qe _ (by exact lh rfl),PY _ (by exact sD.mpr (rd _))⟩
def uh(k N:Int):Wd (cL k N):=by
 unfold cL;have b1:=bD (k+N/80) (show(0:Int)<12 by decide);have b2:=bD (k+N/80) (show(0:Int)<26 by decide);have b3:=bD N (show(0:Int)<4 by decide);have b4:=HV N;have b5:=xn N
 split
 ·exact CZ (Jg _ (by rw[to];lia))
 ·have:=Mh (N%4).toNat (by rw[to];lia) (Fe N).toNat (by rw[to];lia) ((k+N/80)%26).toNat (by rw[to];lia);rw[show(((Fe N).toNat:Nat):Int)=Fe N by lia]at this;exact CZ this
def JG(h:GH z i c=GH z i d):c=d:=by have h:((Txt.slice z none (some i)).cps++#[97+c]++(Txt.slice z (some i) none).cps)=((Txt.slice z none (some i)).cps++#[97+d]++(Txt.slice z (some i) none).cps):=tl Str.cps h;have h2:=tl Array.toList h;simp at h2;exact h2
def qC(hi:0<=i/\i<12)(b:0<=j/\j<12)(h:cL i N=cL j N):i=j:=by
 unfold cL at h
 split at h
 ·have:=FV _ (by rw[to];lia) _ (by rw[to];lia) h;lia
 ·have:=JG h;lia
def GT:∀c∈List.range 26,vJ ("abcdefghijklmnopqrstuvwxyz":Str).cps.toList (c:Int)=some (97+c):=by decide+kernel
def Fz:vJ [V.str "",V.str "soap",V.str "upperlayer",V.str "z"] (N%4)=some (V.str (jW N)):=by have h1:0<=N%4:=Qe _ (by decide);have h2:N%4<4:=PY _ (by decide);unfold jW;rcases(by lia:N%4=0\/N%4=1\/N%4=2\/N%4=3)with e|e|e|e<;>rw[e]<;>rfl
def FW:∀i∈List.range 12,vJ (FZ.map V.str) (i:Int)=some (V.str (xo i)):=by intro i hi;rw[to]at hi;rcases(by lia:i=0\/i=1\/i=2\/i=3\/i=4\/i=5\/i=6\/i=7\/i=8\/i=9\/i=10\/i=11)with rfl|rfl|rfl|rfl|rfl|rfl|rfl|rfl|rfl|rfl|rfl|rfl<;>rfl
inductive IG(vs:List V)(H:Hp)(Q:VK)(_E:XK):Prop|mk(k N:Int)(_:vs=[.int k,.int N])(_:∀H',ao H H'->Q (.str (cL k N)) H')
local macro_rules|`(tactic|walk_at "a")=>`(tactic|(repeat(first|refine U rfl ?_|refine r2 ?_|refine⟨(rfl:fi _ _=true),?_⟩|refine⟨(show fh _ _ from cd rfl),?_⟩|refine⟨(show(0:Int)<_ by first|decide|lia),?_⟩|refine⟨(rfl:V.int 10=V.int 10),rfl,?_⟩)))
section
def u4(T:Txt K mg a):aP P w K mg base dI 1 a.sW.x a.sW.d ["_law_k","_law_number"] IG:=by
 refine T.sW.ok pk λr A outer s H z Q E B h=>?_
 ·obtain⟨k,N,rfl,q⟩:=h;refine⟨_,(ag (aJ (aC aS (av aR (av bB (Y 1) af) af) af (aE _)) (ag (bf 2 pk.nd (bg (ac aB (ac aB (ac aB (ac aB (ac aB (ac aB (ac aB (ac aB (ac aB (ac aB (ac aB (ac aB ae)))))))))))))) (ah (ax (iF K (Y 2) (av aR (av bS (Y 0) (av bB (Y 1) af)) af))))) aA) (ag (bf 3 pk.nd (iF K (bg (ac aB (ac aB (ac aB (ac aB ae))))) (av aR (Y 1) af))) (ag (bf 4 pk.nd (av aR (av bB (Y 1) af) (av bS (au (aG K rfl) (by rfl) T.bp L2.aH (ac (Y 3) ae)) af))) (ah (ax (av jC (av jC (gh yk (Y 3) ja (i9 (Y 4))) (Aq Cw aB (av aR (av bS (Y 0) (av bB (Y 1) af)) af) (λ_ _=>rfl))) (gh yk (Y 3) (i9 (Y 4)) ja))))))),?_⟩
  have b1:=bD (k+N/80) (show(0:Int)<12 by decide);have b2:=bD (k+N/80) (show(0:Int)<26 by decide);have c:=xn N
  walk_at "a"
  refine kW (λg=>?_) (λg=>?_)
  ·have i:cL k N=xo ((k+N/80)%12).toNat:=i_ g;refine⟨ls rfl,λl j=>?_⟩
   walk_at "a"
   have e:=FW ((k+N/80)%12).toNat (by rw[to];lia);rw[show((((k+N/80)%12).toNat:Nat):Int)=(k+N/80)%12 by lia]at e;refine⟨l,_,_,U rfl ⟨rfl,aO.of O,e,?_⟩⟩;rw[<-i];exact q _ (ai (ao.refl H) j)
  ·have i:cL k N=GH (jW N) (Fe N) ((k+N/80)%26).toNat:=ir g;refine⟨ls rfl,λl j=>?_⟩;have p:=ai (o:=.lst [V.str "",V.str "soap",V.str "upperlayer",V.str "z"]) (ao.refl H) j;have f:az H l (.lst [V.str "",V.str "soap",V.str "upperlayer",V.str "z"]) l=some (.lst [V.str "",V.str "soap",V.str "upperlayer",V.str "z"]):=O;generalize az H l (.lst [V.str "",V.str "soap",V.str "upperlayer",V.str "z"])=C at p f⊢
   walk_at "a"
   refine⟨l,_,_,U rfl ⟨rfl,aO.of f,Fz,aq ?_⟩⟩;have t:=HV N;have u:=Txt.slice_le (jW N) none (some (Fe N));have v:=Txt.slice_le (jW N) (some (Fe N)) none
   walk_at "a"
   refine⟨_,(jW N).length,rfl,⟨dn (by exact mu c (lh rfl)),rfl⟩,_,U rfl ⟨rfl,r2 ⟨(by show(0:Int)<_;exact sD.mpr (rd _)),aq ?_⟩⟩⟩;have m:∀a b:Str,(a++b).length=a.length+b.length:=λa b=>by show(a.cps++b.cps).size=a.cps.size+b.cps.size;exact Array.size_append
   have y:(pP ((k+N/80)%26).toNat).length=1:=rfl;have e:=GT ((k+N/80)%26).toNat (by rw[to];lia);rw[show((((k+N/80)%26).toNat:Nat):Int)=(k+N/80)%26 by lia]at e;refine U rfl (U rfl ⟨Fe N,rfl,jW N,rfl,dn (by exact mu c (lh rfl)),?_⟩)
   walk_at "a"
   refine⟨"abcdefghijklmnopqrstuvwxyz",_,97+((k+N/80)%26).toNat,rfl,rfl,dn (by decide+kernel),e,_,pP ((k+N/80)%26).toNat,rfl,rfl,dn (by lia),U rfl (U rfl ⟨Fe N,rfl,jW N,rfl,dn (by exact mu c (lh rfl)),_,U rfl ⟨rfl,dn (by rw[m];lia),?_⟩⟩)⟩;have n:Txt.slice (jW N) none (some (Fe N))++pP ((k+N/80)%26).toNat++Txt.slice (jW N) (some (Fe N)) none=cL k N:=by rw[i];rfl
   rw[n];exact q _ p
end
inductive IH(K:RC)(vs:List V)(H:Hp)(Q:VK)(_E:XK):Prop|mk(z:_)(_:vs=[.int z])(_:Q (.bl true) H)
inductive FD(vs:List V)(H:Hp)(Q:VK)(_E:XK):Prop|mk(x s:Str)(m:Nat)(_:vs=[.str x,.str s,.int m])(_:Bt s m x)(_:m<=60)(_:∀H',ao H H'->Q (.bl true) H')
inductive O8(vs:List V)(H:Hp)(Q:VK)(_E:XK):Prop|mk(x:_)(_:vs=[.str x])(_:Wd x)(_:∀H',ao H H'->Q (.bl true) H')
inductive NS(vs:List V)(H:Hp)(Q:VK)(_E:XK):Prop|mk(x:_)(_:vs=[.str x])(_:Bw x)(_:∀H',ao H H'->Q (.bl true) H')
inductive NR(vs:List V)(H:Hp)(Q:VK)(_E:XK):Prop|mk(z:_)(_:vs=[.int z])(_:(-df<=z/\z<=df))(_:Q (.bl true) H)
inductive IY(vs:List V)(H:Hp)(Q:VK)(_E:XK):Prop|mk(z:_)(_:vs=[.int z])(_:0<=z)(_:Q (.bl true) H)
inductive IJ(vs:List V)(H:Hp)(Q:VK)(_E:XK):Prop|mk(z:_)(_:vs=[.int z])(_:(0<=z/\z<=1000))(_:Q (.bl true) H)
inductive FB(vs:List V)(H:Hp)(Q:VK)(_E:XK):Prop|mk(z:_)(_:vs=[.int z])(_:(1<=z/\z<=df))(_:Q (.bl true) H)
def lr{Q:VK}{p:Prop}[Decidable p]{H:Hp}(h:p)(q:Q (.bl true) H):Q (.bl (decide p)) H:=by rw[m3 h];exact q
section
def j5(T:Txt K mg a):aP P w K mg base dI 1 a.gp.x a.gp.d ["thing"] (IH K):=by
 refine T.gp.ok Ac λb A outer s H c Q E e h=>?_
 ·obtain⟨z,rfl,k⟩:=h;refine⟨_,(ah (ax (cI (au (jh K rfl) (by rfl) T.bh L2.aQ (ac (Y 0) (ac (jB rfl T.Ob L2.HS) ae))) (dF (Gd (au (jh K rfl) (by rfl) T.bh L2.aQ (ac (Y 0) (ac (jB rfl T.Mg L2.Fd) ae)))))))),?_⟩;refine U rfl ⟨_,"int",_,true,rfl,.int z,fA (by decide+kernel),true,rfl,bI ?_⟩;exact U rfl ⟨_,"bool",_,false,rfl,.int z,fA (by decide+kernel),false,rfl,k⟩
def nM(T:Txt K mg a):aP P w K mg base dI 1 a.fB.x a.fB.d ["thing","signs","longest"] FD:=by
 refine T.fB.ok wj λk A outer s H o Q E p h=>?_
 ·obtain⟨x,r,m,rfl,f,hm,q⟩:=h;have l:=f.hi;have g:=f.lo;refine⟨_,(ag (aJ (bZ (aM K rfl (au (jh K rfl) (by rfl) T.bh L2.aQ (ac (Y 0) (ac (jB rfl T.Gx L2.vD) ae))) (λ_=>rfl))) (ah (ax fc)) aA) (ah (ax (cI (uS j4 j4 af (au (aG K rfl) (by rfl) T.bp L2.aH (ac (Y 0) ae)) (Y 2)) (dF (au (jj K rfl rfl) (by rfl) T.xx L2.k7 (ac (wb lT ["sign"] [] [3] (aj i4) (ck 3) (Gc (Y 0)) (λcl C s₀ H₀ ex=>⟨(nz lT ["sign"] 3),bY,(bW Em (Y 3) (Y 1) (by with_unfolding_all rfl))⟩)) ae))))))),?_⟩
  refine U rfl ⟨_,"str",_,true,rfl,.str x,fA (by decide+kernel),true,rfl,b0 ?_⟩;refine U rfl ⟨_,x.length,rfl,⟨by rw[j1];lia,rfl⟩,_,U rfl ⟨rfl,U rfl ?_⟩⟩;refine nB (λh1=>?_) (λh1=>absurd (by exact Rb.mpr g) h1);refine U rfl (r2 (U rfl ?_));refine nB (λh2=>?_) (λh2=>absurd (by exact Rb.mpr l) h2);refine U rfl ⟨x,rfl,λD n=>?_⟩;have t:=GU x;refine HH (K:=K) (z:=x) (λi b j=>b=(List.replicate i true).map V.bl/\j=az H D (.lst b)) ⟨rfl,rfl⟩ ?_ ?_
  ·rintro i c b j hc⟨rfl,rfl⟩;have hi:i<x.cps.toList.length:=(d_.mp hc).1;refine aq (jm (bI ?_));refine U rfl (U rfl ⟨_,U rfl ⟨rfl,O,?_,lf hi ⟨?_,?_⟩⟩⟩)
   ·rw[c_,D_,j1];lia
   ·rw[StrLaws.found_one,m3 (f.cs c (h_ hc)),QW,il];rfl
   ·rw[fZ]
  ·rintro b j⟨rfl,rfl⟩;refine⟨D,_,rfl,aO.of O,?_⟩;have e:(List.replicate x.cps.toList.length true).all id=true:=by simp
   rw[e];exact q _ (ai (ao.refl _) n)
def jD(T:Txt K mg a):aP P w K mg base dI 2 a.eE.x a.eE.d ["thing"] O8:=by
 refine T.eE.ok BL λb A outer s H f Q E c h=>?_
 ·obtain⟨x,rfl,e,q⟩:=h;refine⟨_,(ah (ax (pc T.fB (nM T) c (ac (Y 0) (ac (cA T.Fc rfl) (ac (cA T.vB rfl) ae)))))),?_⟩;exact U rfl ⟨x,_,12,rfl,e,by decide,q⟩
def AA(T:Txt K mg a):aP P w K mg base dI 2 a.kZ.x a.kZ.d ["thing"] NS:=by
 refine T.kZ.ok Af λb A outer s H f Q E c h=>?_
 ·obtain⟨x,rfl,e,q⟩:=h;refine⟨_,(ah (ax (pc T.fB (nM T) c (ac (Y 0) (ac (cA T.nW rfl) (ac (cA T.tY rfl) ae)))))),?_⟩;exact U rfl ⟨x,_,24,rfl,e,by decide,q⟩
def pG(T:Txt K mg a):aP P w K mg base dI 2 a.eV.x a.eV.d ["thing"] NR:=by
 refine T.eV.ok yp λb A outer s H e Q E c h=>?_
 ·obtain⟨z,rfl,⟨h1,h2⟩,q⟩:=h;refine⟨_,(ah (ax (cI (pc T.gp (j5 T) c (ac (Y 0) ae)) (dF (uS j4 j4 (N3 Lj (av uT af af)) (Y 0) (av uT af af)))))),?_⟩;refine U rfl ⟨z,rfl,U rfl (bI ?_)⟩
  walk_at "a"
  refine nB (λ_=>?_) (λh=>absurd h1 h)
  walk_at "a"
  exact lr h2 q
def iK(T:Txt K mg a):aP P w K mg base dI 2 a.fm.x a.fm.d ["thing"] IY:=by
 refine T.fm.ok Ag λb A outer s H e Q E c h=>?_
 ·obtain⟨z,rfl,h1,q⟩:=h;refine⟨_,(ah (ax (cI (pc T.gp (j5 T) c (ac (Y 0) ae)) (dF (bW KQ (Y 0) af (aE _)))))),?_⟩;refine U rfl ⟨z,rfl,U rfl (bI ?_)⟩
  walk_at "a"
  exact lr h1 q
def Ay(T:Txt K mg a):aP P w K mg base dI 3 a.kX.x a.kX.d ["thing"] IJ:=by
 refine T.kX.ok Ad λb A outer s H e Q E c h=>?_
 ·obtain⟨z,rfl,⟨h1,h2⟩,q⟩:=h;refine⟨_,(ah (ax (cI (pc T.fm (iK T) c (ac (Y 0) ae)) (dF (bW j4 (Y 0) (cA T.zw rfl) (aE _)))))),?_⟩;refine U rfl ⟨z,rfl,h1,U rfl (bI ?_)⟩
  walk_at "a"
  exact lr h2 q
def yB(T:Txt K mg a):aP P w K mg base dI 2 a.jf.x a.jf.d ["thing"] FB:=by
 refine T.jf.ok yo λb A outer s H e Q E c h=>?_
 ·obtain⟨z,rfl,⟨h1,h2⟩,q⟩:=h;refine⟨_,(ah (ax (cI (pc T.gp (j5 T) c (ac (Y 0) ae)) (dF (uS j4 j4 af (Y 0) (av uT af af)))))),?_⟩;refine U rfl ⟨z,rfl,U rfl (bI ?_)⟩
  walk_at "a"
  refine nB (λ_=>?_) (λh=>absurd h1 h)
  walk_at "a"
  exact lr h2 q
end
inductive LF(K:RC)(vs:List V)(H:Hp)(Q:VK)(_E:XK):Prop|mk(b:Addr)(m:Str×Int)(_:vs=[.ref b])(_:aT K H b [.str m.1,.int m.2])(_:Wd m.1)(_:(-df<=m.2/\m.2<=df))(_:∀H',ao H H'->Q (.bl true) H')
inductive IT(K:RC)(vs:List V)(H:Hp)(Q:VK)(_E:XK):Prop|mk(v:V)(l:List (Str×Int))(_:vs=[v])(_:tZ K H l v)(_:(∀m∈l,Wd m.1/\-df<=m.2/\m.2<=df))(_:(l.map Prod.fst).Nodup)(_:l.length<=8)(_:∀H',ao H H'->Q (.bl true) H')
inductive FK(K:RC)(vs:List V)(H:Hp)(Q:VK)(_E:XK):Prop|mk(p:Addr)(l:RN)(_:vs=[.ref p,.int (l.length:Nat)])(_:aT K H p (l.map V.int))(_:(∀i∈l,0<=i))(_:l.length<=100)(_:∀H',ao H H'->Q (.bl true) H')
inductive D7(K:RC)(vs:List V)(H:Hp)(Q:VK)(_E:XK):Prop|mk(p:Addr)(l:RN)(_:vs=[.ref p,.int (l.length:Nat)])(_:aT K H p (l.map V.int))(_:(∀i∈l,1<=i/\i<=df))(_:l.length<=100)(_:∀H',ao H H'->Q (.bl true) H')
inductive LP(K:RC)(vs:List V)(H:Hp)(Q:VK)(_E:XK):Prop|mk(p:Addr)(l:RI)(_:vs=[.ref p])(_:aT K H p (l.map V.str))(_:(∀w∈l,Wd w))(_:l.Nodup)(_:1<=l.length)(_:l.length<=4)(_:∀H',ao H H'->Q (.bl true) H')
def jo(i:Nat):(List.replicate i true).map V.bl++[V.bl true]=(List.replicate (i+1) true).map V.bl:=by rw[QW,il];rfl
def kI(n:Nat):(List.replicate n true).all id=true:=by simp
def kH(i:Nat)(h:i<=1000):((List.replicate i true).map V.bl).length<sizeLine:=by rw[c_,D_,j1];exact rV h (lh rfl)
def yJ{b c:Type}{f:b->c}{l:List b}{i:Nat}{v:c}(h:(l.map f)[i]?=some v):∃x,l[i]?=some x/\v=f x/\x∈l:=by rw[ig]at h;cases e:l[i]?with|none=>rw[e]at h;cases h|some x=>rw[e]at h;cases h;exact⟨x,rfl,rfl,h_ e⟩
def xB(l:RI):(l.map (Sum.inr:Str->bL)).map kV=l.map V.str:=by rw[t_];rfl
def AZ{l:RI}(h:l.Nodup):(dd (l.map (Sum.inr:Str->bL))).length=l.length:=by have:=(MK (l.map (Sum.inr:Str->bL))).mpr (h.map _ (λa b h e=>h (ro e)));rw[this,c_]
section
def B4(T:Txt K mg a):aP P w K mg base dI 3 a.ni.x a.ni.d ["thing"] (LF K):=by
 refine T.ni.ok BO λg A outer s H j Q E e h=>?_
 ·obtain⟨b,m,rfl,c,h1,h2,q⟩:=h;refine⟨_,(ah (ax (cI (au (dP K rfl) (by rfl) T.bh L2.aQ (ac (Y 0) (ac (jB rfl T.dO L2.bT) ae))) (cI (bW aS (au (aG K rfl) (by rfl) T.bp L2.aH (ac (Y 0) ae)) af (aE _)) (cI (pc T.eE (jD T) e (ac (cS K (Y 0) af) ae)) (dF (pc T.eV (pG T) e (ac (cS K (Y 0) af) ae)))))))),?_⟩;refine U rfl ⟨_,"tuple",_,true,rfl,.inr ⟨b,U rfl ⟨c,rfl⟩⟩,fA (by decide+kernel),true,rfl,bI ?_⟩;refine U rfl ⟨_,2,rfl,.inr ⟨_,c,rfl⟩,rfl,U rfl (bI ?_)⟩;refine U rfl (rX c rfl ⟨m.1,rfl,h1,λi f=>(U rfl (bI ?_))⟩);exact U rfl (rX (ao.tseq f c) rfl ⟨m.2,rfl,h2,q i f⟩)
def yC(T:Txt K mg a):aP P w K mg base dI 4 a.jk.x a.jk.d ["thing"] (IT K):=by
 refine T.jk.ok yr λW A outer s H g Q E X h=>?_
 ·obtain⟨v,l,rfl,Z,h1,h2,h3,q⟩:=h;obtain⟨p,g,rfl,j,y,z⟩:=Z;refine⟨_,(ag (aJ (PW.pt (fb (bZ (aM K rfl (au (dP K rfl) (by rfl) T.bh L2.aQ (ac (Y 0) (ac (jB rfl T.dO L2.bT) ae))) (λ_=>rfl))) (dD (aC sE (au (aG K rfl) (by rfl) T.bp L2.aH (ac (Y 0) ae)) (cA T.zA rfl) (aE _))))) (ah (ax fc)) aA) (ag (aJ (bZ (aM K rfl (au (jj K rfl rfl) (by rfl) T.xx L2.k7 (ac (wb ["thing"] ["mark"] [] [1] (aj iI) (ck 1) (iC K rfl (Y 0)) (λcl C s₀ H₀ ex=>⟨(nz ["thing"] ["mark"] 1),bY,(pc T.ni (B4 T) X (ac (Y 1) ae))⟩)) ae)) (λ_=>rfl))) (ah (ax fc)) aA) (ah (ax (bW aS (au (vA (P:=P) (w:=w)) (by rfl) T.bp L2.aH (ac (db (E6 (P:=P) (w:=w) K rfl rfl) (by rfl) T.Gy L2.vE (ac (wb ["thing"] ["mark"] [] [1] (aj iI) (ck 1) (iC K rfl (Y 0)) (λcl C s₀ H₀ ex=>⟨(nz ["thing"] ["mark"] 1),bY,(cS K (Y 1) af)⟩)) ae)) ae)) (au (aG K rfl) (by rfl) T.bp L2.aH (ac (Y 0) ae)) (aE _)))))),?_⟩
  refine U rfl ⟨_,"tuple",_,true,rfl,.inr ⟨p,U rfl ⟨j,rfl⟩⟩,fA (by decide+kernel),true,rfl,b0 ?_⟩;refine U rfl ⟨_,g.length,rfl,.inr ⟨_,j,rfl⟩,_,U rfl ⟨rfl,U rfl (nB (λh=>absurd h (by lia)) (λ_=>?_))⟩⟩;refine U rfl ⟨p,rfl,⟨_,j⟩,λD L=>?_⟩;refine gt (K:=K) (a:=p) (xs:=g) (λi c H'=>c=(List.replicate i true).map V.bl/\ao H H'/\H' D=some (.lst c)) ⟨rfl,ai (ao.refl _) L,O⟩ (λi c H' _ h=>ao.tseq h.2.1 j) ?_ ?_
  ·rintro i v c M k⟨rfl,n,r⟩;have hi:i<g.length:=(d_.mp k).1;have e:l[i]?=some (l[i]'(by lia)):=hY (by lia);generalize l[i]'(by lia)=m at e;obtain⟨b,F,G⟩:=z i m e;rw[F]at k;cases k;have hm:=h1 m (h_ e);refine aq (jm (bI (U rfl ⟨b,m,rfl,ao.tseq n G,hm.1,hm.2,λI t=>⟨t _ _ r,kH i (by lia),lf hi ⟨jo i,a0 (n.trans t) L,O⟩⟩⟩)))
  ·rintro c M⟨rfl,n,r⟩;refine⟨D,_,rfl,aO.of r,_,rfl,?_⟩;rw[kI];refine b0 (U rfl ⟨p,rfl,⟨_,ao.tseq n j⟩,λN B=>?_⟩);refine gt (K:=K) (a:=p) (xs:=g) (λi c H'=>c=((l.take i).map Prod.fst).map V.str/\ao M H'/\H' N=some (.lst c)) ⟨by rw[x_];rfl,ai (ao.refl _) B,O⟩ (λi c H' _ h=>ao.tseq (n.trans h.2.1) j) ?_ ?_
   ·rintro i v c I k⟨rfl,t,f⟩;have hi:i<g.length:=(d_.mp k).1;have e:l[i]?=some (l[i]'(by lia)):=hY (by lia);generalize l[i]'(by lia)=m at e;obtain⟨b,F,G⟩:=z i m e;rw[F]at k;cases k;refine aq (jm (bI (U rfl (rX (ao.tseq (n.trans t) G) rfl ⟨f,?_,lf hi ⟨?_,a0 t B,O⟩⟩))))
    ·rw[c_,c_,no,j1];lia
    ·rw[um e,il];rfl
   ·rintro c I⟨rfl,t,f⟩;rw[ku (by exact PL y.symm),<-xB]at f;have u:=AZ h2;rw[c_]at u;refine⟨N,(l.map Prod.fst).map Sum.inr,rfl,aO.of f,by rw[c_,c_];exact rV h3 (lh rfl),λR J=>?_⟩;refine⟨R,_,U rfl ⟨O,by rw[u];lia,?_⟩⟩;have S:∀o,ao H (az I R o):=λo=>ai (n.trans t) J;refine U rfl ⟨_,g.length,rfl,.inr ⟨_,ao.tseq (S _) j,rfl⟩,rfl,?_⟩;rw[u,<-y,m3 rfl];exact q _ (S _)
def wE(T:Txt K mg a):aP P w K mg base dI 3 a.gT.x a.gT.d ["thing","many"] (FK K):=by
 refine T.gT.ok wu λk A outer s H t Q E m h=>?_
 ·obtain⟨p,l,rfl,e,h1,h2,q⟩:=h;refine⟨_,(ah (ax (cI (au (dP K rfl) (by rfl) T.bh L2.aQ (ac (Y 0) (ac (jB rfl T.dO L2.bT) ae))) (cI (bW aS (au (aG K rfl) (by rfl) T.bp L2.aH (ac (Y 0) ae)) (Y 1) (aE _)) (dF (au (jj K rfl rfl) (by rfl) T.xx L2.k7 (ac (wb jd ["number"] [] [2] (aj i5) (ck 2) (iC K rfl (Y 0)) (λcl C s₀ H₀ ex=>⟨(nz jd ["number"] 2),bY,(pc T.fm (iK T) m (ac (Y 2) ae))⟩)) ae))))))),?_⟩
  refine U rfl ⟨_,"tuple",_,true,rfl,.inr ⟨p,U rfl ⟨e,rfl⟩⟩,fA (by decide+kernel),true,rfl,bI ?_⟩;refine U rfl ⟨_,l.length,rfl,.inr ⟨_,e,by simp⟩,U rfl ⟨rfl,U rfl ?_⟩⟩;rw[m3 rfl];refine bI (U rfl ⟨p,rfl,⟨_,e⟩,λD g=>?_⟩);refine gt (K:=K) (a:=p) (xs:=l.map V.int) (λi b H'=>b=(List.replicate i true).map V.bl/\ao H H'/\H' D=some (.lst b)) ⟨rfl,ai (ao.refl _) g,O⟩ (λi b H' _ h=>ao.tseq h.2.1 e) ?_ ?_
  ·rintro i v b n j⟨rfl,f,c⟩;have hi:=(d_.mp j).1;obtain⟨z,_,rfl,o⟩:=yJ j;have r:i<l.length:=by simpa using hi
   exact aq (jm (bI (U rfl ⟨z,rfl,h1 z o,c,kH i (by lia),lf hi ⟨jo i,a0 f g,O⟩⟩)))
  ·rintro b n⟨rfl,f,c⟩;refine⟨D,_,rfl,aO.of c,?_⟩;rw[kI];exact q _ f
def u3(T:Txt K mg a):aP P w K mg base dI 3 a.fT.x a.fT.d ["thing","many"] (D7 K):=by
 refine T.fT.ok uJ λk A outer s H t Q E m h=>?_
 ·obtain⟨p,l,rfl,e,h1,h2,q⟩:=h;refine⟨_,(ah (ax (cI (au (dP K rfl) (by rfl) T.bh L2.aQ (ac (Y 0) (ac (jB rfl T.dO L2.bT) ae))) (cI (bW aS (au (aG K rfl) (by rfl) T.bp L2.aH (ac (Y 0) ae)) (Y 1) (aE _)) (dF (au (jj K rfl rfl) (by rfl) T.xx L2.k7 (ac (wb nY ["number"] [] [2] (aj iz) (ck 2) (iC K rfl (Y 0)) (λcl C s₀ H₀ ex=>⟨(nz jd ["number"] 2),bY,(pc T.jf (yB T) m (ac (Y 2) ae))⟩)) ae))))))),?_⟩
  refine U rfl ⟨_,"tuple",_,true,rfl,.inr ⟨p,U rfl ⟨e,rfl⟩⟩,fA (by decide+kernel),true,rfl,bI ?_⟩;refine U rfl ⟨_,l.length,rfl,.inr ⟨_,e,by simp⟩,U rfl ⟨rfl,U rfl ?_⟩⟩;rw[m3 rfl];refine bI (U rfl ⟨p,rfl,⟨_,e⟩,λD g=>?_⟩);refine gt (K:=K) (a:=p) (xs:=l.map V.int) (λi b H'=>b=(List.replicate i true).map V.bl/\ao H H'/\H' D=some (.lst b)) ⟨rfl,ai (ao.refl _) g,O⟩ (λi b H' _ h=>ao.tseq h.2.1 e) ?_ ?_
  ·rintro i v b n j⟨rfl,f,c⟩;have hi:=(d_.mp j).1;obtain⟨z,_,rfl,o⟩:=yJ j;have r:i<l.length:=by simpa using hi
   exact aq (jm (bI (U rfl ⟨z,rfl,h1 z o,c,kH i (by lia),lf hi ⟨jo i,a0 f g,O⟩⟩)))
  ·rintro b n⟨rfl,f,c⟩;refine⟨D,_,rfl,aO.of c,?_⟩;rw[kI];exact q _ f
def AC(T:Txt K mg a):aP P w K mg base dI 3 a.k8.x a.k8.d ["thing"] (LP K):=by
 refine T.k8.ok Ah λB A outer s H J Q E F h=>?_
 ·obtain⟨p,l,rfl,e,h1,h2,h3,h4,q⟩:=h;refine⟨_,(ag (aJ (PW.pt (fb (bZ (aM K rfl (au (dP K rfl) (by rfl) T.bh L2.aQ (ac (Y 0) (ac (jB rfl T.dO L2.bT) ae))) (λ_=>rfl))) (dD (bZ (Am j4 j4 af (au (aG K rfl) (by rfl) T.bp L2.aH (ac (Y 0) ae)) (cA T.Bm rfl)))))) (ah (ax fc)) aA) (ah (ax (cI (au (jj K rfl rfl) (by rfl) T.xx L2.k7 (ac (wb ["thing"] ["arm"] [] [1] (aj lG) (ck 1) (iC K rfl (Y 0)) (λcl C s₀ H₀ ex=>⟨(nz ["thing"] ["arm"] 1),bY,(pc T.eE (jD T) F (ac (Y 1) ae))⟩)) ae)) (dF (bW aS (au (vA (P:=P) (w:=w)) (by rfl) T.bp L2.aH (ac (db (CO (P:=P) (w:=w) K rfl rfl) (by rfl) T.Gy L2.vE (ac (Y 0) ae)) ae)) (au (aG K rfl) (by rfl) T.bp L2.aH (ac (Y 0) ae)) (aE _))))))),?_⟩
  refine U rfl ⟨_,"tuple",_,true,rfl,.inr ⟨p,U rfl ⟨e,rfl⟩⟩,fA (by decide+kernel),true,rfl,b0 ?_⟩;have f:l.length=(l.map V.str).length:=by simp
  refine U rfl ⟨_,l.length,rfl,.inr ⟨_,e,f⟩,_,U rfl ⟨rfl,U rfl (nB (λ_=>?_) (λh=>absurd (by exact Rb.mpr h3) h))⟩⟩;refine r2 (U rfl ?_);show if(!decide ((l.length:Int)<=4))=true then _ else _
  rw[m3 (show(l.length:Int)<=4 by exact Rb.mpr h4)];refine b0 ?_;refine U rfl ⟨p,rfl,⟨_,e⟩,λD m=>?_⟩;refine gt (K:=K) (a:=p) (xs:=l.map V.str) (λi b H'=>b=(List.replicate i true).map V.bl/\ao H H'/\H' D=some (.lst b)) ⟨rfl,ai (ao.refl _) m,O⟩ (λi b H' _ h=>ao.tseq h.2.1 e) ?_ ?_
  ·rintro i v b n r⟨rfl,j,c⟩;have hi:=(d_.mp r).1;obtain⟨z,_,rfl,G⟩:=yJ r;have I:i<l.length:=by simpa using hi
   exact aq (jm (bI (U rfl ⟨z,rfl,h1 z G,λM t=>⟨t _ _ c,kH i (by lia),lf hi ⟨jo i,a0 (j.trans t) m,O⟩⟩⟩)))
  ·rintro b n⟨rfl,j,c⟩;refine⟨D,_,rfl,aO.of c,_,rfl,?_⟩;rw[kI];have g:=AZ h2;refine bI (U rfl ⟨p,l.map Sum.inr,rfl,by rw[xB];exact ao.tseq j e,by rw[c_];exact rV h4 (lh rfl),λu k=>?_⟩);refine⟨u,_,U rfl ⟨O,by rw[g];lia,?_⟩⟩;have y:∀o,ao H (az n u o):=λo=>ai j k;refine U rfl ⟨_,l.length,rfl,.inr ⟨_,ao.tseq (y _) e,f⟩,rfl,?_⟩;rw[g,m3 rfl];exact q _ (y _)
end
def mR{A B:Prop}{x y:Str}(h:x≠y)(b:B):if decide (V.str x=V.str y)=true then A else B:=G5 (λe=>absurd e h) (λ_=>b)
def bO{A B:Prop}{x:Str}(a:A):if decide (V.str x=V.str x)=true then A else B:=G5 (λ_=>a) (λh=>absurd rfl h)
def wn{A B:Prop}{x y:Str}(b:B)(h:x≠y:=by first|decide+kernel|(dsimp only[Ru.kind];decide+kernel)):if decide (V.str x=V.str y)=true then A else B:=mR h b
abbrev jI(K:RC)(H:Hp):List Ru->List V->Prop:=Paired (eY K H)
theorem jI.kp(e:Kp H H')(h:jI K H b c):jI K H' b c:=Paired.mapP h λ_ _ q=>q.kp e
def jI.app(h:jI K H b c)(k:jI K H d e):jI K H (b++d) (c++e):=qQ h k
def jI.get(h:jI K H b c)(i:Nat)(v:V)(e:c[i]?=some v):∃r,b[i]?=some r/\eY K H r v:=qP h i v e
def Ru.kids:Ru->List Ru|.not q=>[q]|.both q r=>[q,r]|.either q r=>[q,r]|_=>[]
def Ru.kind:Ru->Str|.any=>"any"|.has _=>"has"|.least _ _=>"least"|.not _=>"not"|.both _ _=>"both"|.either _ _=>"either"
def Ru.deep:Ru->Bool|.not _=>true|.both _ _=>true|.either _ _=>true|_=>false
def Ru.subs_kids(r:Ru):r.subs=r::(r.kids.map Ru.subs).flatten:=by cases r<;>simp[Ru.subs,Ru.kids]
def eY.tup(h:eY K H r v):∃t b,v=.ref t/\aT K H t (.str r.kind::b)/\(r.deep=true->jI K H r.kids b/\b≠[])/\(∀w,r.word1=some w->∃c,b=.str w::c):=by cases h with|any h=>exact⟨_,_,rfl,h,λe=>(nomatch e),λw e=>(nomatch e)⟩|has h=>exact⟨_,_,rfl,h,λe=>(nomatch e),λw e=>by cases e;exact⟨_,rfl⟩⟩|least h=>exact⟨_,_,rfl,h,λe=>(nomatch e),λw e=>by cases e;exact⟨_,rfl⟩⟩|not h q=>exact⟨_,U rfl ⟨h,λ_=>⟨.cons q .nil,nofun⟩,λw e=>(nomatch e)⟩⟩|both h q r=>exact⟨_,U rfl ⟨h,λ_=>⟨.cons q (.cons r .nil),nofun⟩,λw e=>(nomatch e)⟩⟩|either h q r=>exact⟨_,U rfl ⟨h,λ_=>⟨.cons q (.cons r .nil),nofun⟩,λw e=>(nomatch e)⟩⟩
def J8(r:Ru):nC (.str r.kind) [.str "not",.str "both",.str "either"]=r.deep:=by cases r with|any=>exact(show nC (.str "any") [.str "not",.str "both",.str "either"]=false by decide+kernel)|has _=>exact(show nC (.str "has") [.str "not",.str "both",.str "either"]=false by decide+kernel)|least _ _=>exact(show nC (.str "least") [.str "not",.str "both",.str "either"]=false by decide+kernel)|not _=>exact(show nC (.str "not") [.str "not",.str "both",.str "either"]=true by decide+kernel)|both _ _=>exact(show nC (.str "both") [.str "not",.str "both",.str "either"]=true by decide+kernel)|either _ _=>exact(show nC (.str "either") [.str "not",.str "both",.str "either"]=true by decide+kernel)
def J7(r:Ru):nC (.str r.kind) [.str "has",.str "least"]=r.word1.isSome:=by cases r with|any=>exact(show nC (.str "any") [.str "has",.str "least"]=false by decide+kernel)|has _=>exact(show nC (.str "has") [.str "has",.str "least"]=true by decide+kernel)|least _ _=>exact(show nC (.str "least") [.str "has",.str "least"]=true by decide+kernel)|not _=>exact(show nC (.str "not") [.str "has",.str "least"]=false by decide+kernel)|both _ _=>exact(show nC (.str "both") [.str "has",.str "least"]=false by decide+kernel)|either _ _=>exact(show nC (.str "either") [.str "has",.str "least"]=false by decide+kernel)
def J2{r k:Ru}{n:Nat}(h:k∈r.kids)(hh:r.hgt<=n+1):k.hgt<=n:=by
 cases r with|any=>cases h|has _=>cases h|least _ _=>cases h|not q=>
  have:k=q:=by simpa[Ru.kids]using h
  have hh:q.hgt+1<=n+1:=hh;rw[this];exact Q8 hh|both q r=>
  have:k=q\/k=r:=by simpa[Ru.kids]using h
  have hh:max q.hgt r.hgt+1<=n+1:=hh;have h1:=QL q.hgt r.hgt;have h2:=Qz q.hgt r.hgt;rcases this with rfl|rfl<;>lia|either q r=>
  have:k=q\/k=r:=by simpa[Ru.kids]using h
  have hh:max q.hgt r.hgt+1<=n+1:=hh;have h1:=QL q.hgt r.hgt;have h2:=Qz q.hgt r.hgt;rcases this with rfl|rfl<;>lia
def HC(x:V)(b:List V):HT.iB (x::b).length 0 (some 1)=1:=by show(if(1:Int)<0 then((1:Int)+((x::b).length:Int)).toNat else min (1:Int).toNat (b.length+1))=1;rw[ir (by decide)];show min 1 (b.length+1)=1;exact rfl
def Kk(x:V)(b:List V):¬HT.iB (x::b).length 0 (some 1)=0:=by rw[HC];decide
def HB(x:V)(b:List V):w5 (x::b) (some 1) none=b:=by unfold w5;rw[HC,HT.F3];show b.take ((b.length+1)-1)=b;rw[Nat.add_sub_cancel,ku (f_ _)]
inductive FA(K:RC)(h:Nat)(vs:List V)(H:Hp)(Q:VK)(_E:XK):Prop|mk(r:Ru)(rv:V)(_:vs=[rv])(_:eY K H r rv)(_:r.hgt<=h)(_:h<=6)(_:∀(l:Addr)(us:List V)(H':Hp),ao H H'->H l=none->H' l=some (.lst us)->jI K H' r.subs us->Q (.ref l) H')
section
theorem kr(T:Txt K mg a):∀h:Nat,aP P w K mg base dI (h+1) a.bU.x a.bU.d ["rule"] (FA K h)
 |0=>by
  refine T.bU.f.ok iw (λe H Q E h=>?_) (λZ A outer s H e Q E hr h=>?_)
  ·obtain⟨r,rv,rfl,_⟩:=h;rfl
  ·obtain⟨r,rv,rfl,_,hh,_⟩:=h;have:=r.hgt_pos;lia|n+1=>by
  have ih:=kr T n;refine T.bU.f.ok iw (λe H Q E h=>?_) (λZ A outer s H e Q E hr h=>?_)
  ·obtain⟨r,rv,rfl,_⟩:=h;rfl
  ·obtain⟨r,rv,rfl,hR,hh,h6,q⟩:=h;obtain⟨t,e,rfl,hT,v,_⟩:=hR.tup;refine⟨_,(ag (bf 1 iw.nd (bg (ac (Y 0) ae))) (ag (aJ (aC (oG K rfl) (cS K (Y 0) af) (bF (ac aB (ac aB (ac aB ae)))) (by with_unfolding_all rfl)) (ah (dw op rfl (iC K rfl (gh (C5 K rfl) (Y 0) (i9 af) ja)) (pF 2 iw.nd) (ah (aN (gK K rfl PySem.F.plainAttrs_list PySem.F.slot_list_extend PySem.F.type_list_extend xy (Y 1) (ac (bP ih hr rfl T.bU.m T.bU.f.kp T.bU.b .nil bx (ac (Y 2) ae)) ae)))))) aA) (ah (ax (Y 1))))),?_⟩
   refine U rfl ⟨ls rfl,λl R=>?_⟩;have s0:=ai (o:=.lst [.ref t]) (ao.refl H) R;have y:az H l (.lst [.ref t]) l=some (.lst [.ref t]):=O
   try dsimp only
   generalize az H l (.lst [.ref t])=H0 at s0 y⊢;refine U rfl (rX (ao.tseq s0 hT) (ak (k:=0) rfl) ⟨ls rfl,λt3 G=>?_⟩);have I:=ai (o:=.tup [.str "not",.str "both",.str "either"]) s0 G;have j:az H0 t3 (.tup [.str "not",.str "both",.str "either"]) l=some (.lst [.ref t]):=by rw[am (aD y G)];exact y
   refine⟨t3,U rfl ⟨.inr (aT.of O),rfl,rfl,U rfl ?_⟩⟩;show if nC (.str r.kind) [.str "not",.str "both",.str "either"]=true then _ else _
   rw[J8]
   try dsimp only
   generalize az H0 t3 (.tup [.str "not",.str "both",.str "either"])=S at I j⊢;cases hd:r.deep with
 |false=>
    refine b0 (U rfl ?_);have hs:r.subs=[r]:=by cases r<;>first|rfl|cases hd
    exact q l [.ref t] S I R j (by rw[hs];exact .cons (hR.kp (.of I)) .nil)|true=>
    obtain⟨hK,ap⟩:=v hd;refine bI ?_;refine U rfl (U rfl ?_);have hc:=r.cnt_lt;have as:2^r.hgt<=2^6:=PB (by decide) (by lia);have aa:e.length=r.kids.length:=(Paired.length hK).symm;have J:∀(i:Nat)(k:Ru),r.kids[i]?=some k->k.hgt<=n:=λi k V=>J2 (h_ V) hh;refine⟨t,U rfl ⟨ao.tseq I hT,λz=>absurd z.1 (Kk _ _),λp hp=>?_⟩⟩;rw[HB];have s2:=ai (o:=.tup e) I hp;have L:az S p (.tup e) l=some (.lst [.ref t]):=by rw[am (aD j hp)];exact j
    have B:az S p (.tup e) p=some (.tup e):=O
    try dsimp only
    generalize az S p (.tup e)=H2 at s2 L B⊢;refine⟨p,rfl,⟨_,aT.of B⟩,Ke (xs:=e) (D:={nx:=NE (Lo 1) {nx:=λ_ H'=>Q .non H',rt:=Q},rt:=Q}) (λi W H'=>ao H H'/\H' p=some (.tup e)/\(∃C,H' l=some (.lst C)/\jI K H' (r::((r.kids.take i).map Ru.subs).flatten) C)/\∃v2,W=[some (.ref t),some (.ref l),v2]) ⟨s2,B,⟨[.ref t],L,.cons (hR.kp (.of s2)) .nil⟩,_,rfl⟩ (λi W H' _ h=>aT.of h.2.1) ?_ ?_⟩
    ·rintro i x W H3 hx⟨X,u,⟨C,c,g⟩,v2,rfl⟩;obtain⟨k,V,ad⟩:=jI.get hK i x hx;refine aq (U rfl ⟨.inl ⟨rfl,_,aO.of c⟩,U rfl ⟨k,x,rfl,ad.kp (.of X),J i k V,by exact t2 h6,λl' al H4 M a2 an N=>?_⟩⟩);have e1:((r.kids.take (i+1)).map Ru.subs).flatten=((r.kids.take i).map Ru.subs).flatten++k.subs:=by rw[F_,V,il,List.flatten_append];simp
     have n1:=Paired.length g;have n2:=Paired.length N;have n3:(((r.kids.take i).map Ru.subs).flatten).length+k.subs.length<=64:=by
      have e2:r.subs.length=1+((r.kids.map Ru.subs).flatten).length:=by rw[r.subs_kids,oi];lia
      have e3:((r.kids.map Ru.subs).flatten).length=(((r.kids.take (i+1)).map Ru.subs).flatten).length+(((r.kids.drop (i+1)).map Ru.subs).flatten).length:=by rw[<-iA,<-List.flatten_append,<-il,ta]
      rw[e1,iA]at e3;unfold Ru.cnt at hc;lia
     rw[oi]at n1;refine⟨l,l',_,U rfl ⟨rfl,M _ _ c,an,by rw[j1];lia,?_⟩⟩;have kq:Kp H4 (az H4 l (.lst (C++al))):=.lst (M _ _ c);refine⟨a0 (X.trans M) R,?_,⟨_,O,?_⟩,_,rfl⟩
     ·rw[am (λz=>by rw[z,c]at u;cases u)];exact M _ _ u
     ·rw[e1,<-List.cons_append];exact jI.app ((g.kp (.of M)).kp kq) (N.kp kq)
    ·rintro W H3⟨X,u,⟨C,c,g⟩,v2,rfl⟩;refine U rfl (q l C H3 X R c ?_);rw[r.subs_kids];rw[aa,ku (f_ _)]at g;exact g
end
def MJ[DecidableEq g][BEq g][LawfulBEq g][DecidableEq h][BEq h][LawfulBEq h](f:g->h)(i:∀a b,f a=f b->a=b)(d:List g):dd (d.map f)=(dd d).map f:=by
 have gen:∀(d c:List g),(d.map f).foldl PyProof.Rows.step_dedup (c.map f)=(d.foldl PyProof.Rows.step_dedup c).map f:=by
  intro d
  induction d with|nil=>intro c;rfl|cons k r j=>
   intro c;rw[np,z7,z7,<-j]
   congr 1
   unfold PyProof.Rows.step_dedup;have e:(c.map f).any (λy=>y==f k)=c.any (λy=>y==k):=by
    rw[List.any_map]
    congr 1
    funext y
    show(f y==f k)=(y==k)
    by_cases q:y=k
    ·rw[q,B_,B_]
    ·rw[Rv q,Rv (λz=>q (i _ _ z))]
   by_cases q:c.any (λy=>y==k)=true
   ·rw[i_ (e.trans q),i_ q]
   ·rw[ir (λz=>q (e.symm.trans z)),ir q,il];rfl
 exact gen d []
def Ru.wset(r:Ru):List Str:=dd r.words
def Ru.wset_keys(r:Ru):dd (r.words.map (Sum.inr:Str->bL))=r.wset.map Sum.inr:=MJ Sum.inr (λ_ _ h=>ro h) r.words
def Ru.wset_le(r:Ru):r.wset.length<=r.cnt:=by have h1:=rS r.words [];have h2:=r.words_le;unfold Ru.wset dd;simp at h1;lia
inductive IF(K:RC)(vs:List V)(H:Hp)(Q:VK)(_E:XK):Prop|mk(r:Ru)(rv:V)(_:vs=[rv])(_:eY K H r rv)(_:r.hgt<=6)(_:∀(l:Addr)(ss:RI)(H':Hp),ao H H'->H l=none->H' l=some (.lst (ss.map V.str))->ss.Perm r.wset->ss.Pairwise ny->Q (.ref l) H')
section
def Au(T:Txt K mg a):aP P w K mg base dI 8 a.kG.x a.kG.d ["rule"] (IF K):=by
 refine T.kG.ok Ab λaa A outer s H vs Q E hr h=>?_
 ·obtain⟨r,rv,rfl,hR,hh,q⟩:=h;refine⟨_,(ah (ax (au (zt (P:=P) (w:=w) rfl) (by rfl) T.AI L2.sU (ac (db (CN (P:=P) (w:=w) K rfl rfl) (by rfl) T.Gy L2.vE (ac (wb ["rule"] ["inner"] [] [1] (aj lx) (ck 1) (cK K rfl (bP ((kr T 6).mono (by decide)) hr rfl T.bU.m T.bU.f.kp T.bU.b .nil bx (ac (Y 0) ae))) (λcl C s₀ H₀ ex=>⟨(nz ["rule"] ["inner"] 1),(t6 (aC (oG K rfl) (cS K (Y 1) af) (bF (ac aB (ac aB ae))) (by with_unfolding_all rfl))),(cS K (Y 1) af)⟩)) ae)) ae)))),?_⟩
  refine U rfl ⟨r,rv,rfl,hR,hh,f_ _,λl F H1 M hl u y=>?_⟩;have hc:=r.cnt_lt;have ad:2^r.hgt<=2^6:=PB (by decide) (by omega);have G:F.length=r.subs.length:=(Paired.length y).symm;have al:r.subs.length<64:=by unfold Ru.cnt at hc;lia
  refine⟨l,rfl,⟨_,aO.of u⟩,λD N=>?_⟩;refine jg (K:=K) (a:=l) (xs:=F) (λi e H'=>e=((r.subs.take i).filterMap Ru.word1).map V.str/\ao H1 H'/\H' D=some (.lst e)) ⟨by rw[x_];rfl,ai (ao.refl _) N,O⟩ (λi e H' _ h=>aO.of (h.2.1 _ _ u)) ?_ ?_
  ·rintro i v e B R⟨rfl,p,c⟩;have hi:i<F.length:=(d_.mp R).1;obtain⟨k,hk,I⟩:=jI.get y i v R;obtain⟨t,vs,rfl,S,_,hw⟩:=(I.kp (.of p)).tup;refine aq (U rfl (rX S (ak (k:=0) rfl) ⟨ls rfl,λW J=>?_⟩));have g:=ai (o:=.tup [.str "has",.str "least"]) (ao.refl B) J;refine⟨W,U rfl ⟨.inr (aT.of O),rfl,rfl,U rfl ?_⟩⟩;show if nC (.str k.kind) [.str "has",.str "least"]=true then _ else _
   rw[J7]
   try dsimp only
   generalize az B W (.tup [.str "has",.str "least"])=H3 at g⊢;have X:(r.subs.take (i+1)).filterMap Ru.word1=(r.subs.take i).filterMap Ru.word1++k.word1.toList:=by
    rw[F_,hk,Es]
    congr 1
   have fl:((r.subs.take i).filterMap Ru.word1).length<=i:=mu (PU _ _) (PP _ _);cases j:k.word1 with|none=>refine b0 (lf hi ⟨?_,p.trans g,g _ _ c⟩);rw[X,j];simp|some wd=>
    obtain⟨an,rfl⟩:=hw wd j;refine bI (U rfl (rX (ao.tseq g S) (ak (k:=1) rfl) ⟨g _ _ c,?_,lf hi ⟨?_,a0 (p.trans g) N,O⟩⟩))
    ·rw[c_,j1];lia
    ·rw[X,j,il];rfl
  ·rintro e B⟨rfl,p,c⟩;rw[G,ku (f_ _),r.words_subs]at c;have wl:=r.words_le;have ap:=r.wset_le;have c:B D=some (.lst ((r.words.map (Sum.inr:Str->bL)).map kV)):=by rw[t_];exact c
   refine⟨D,r.words.map Sum.inr,rfl,aO.of c,by rw[c_];lia,λZ L=>?_⟩;rw[r.wset_keys];have g:=ai (o:=Ef P w Z (r.wset.map Sum.inr)) (ao.refl B) L;refine⟨Z,r.wset,rfl,O,by lia,λq2 ss n hp hs=>?_⟩;have s4:=ai (o:=.lst (ss.map V.str)) g n;exact q q2 ss _ ((M.trans p).trans s4) (by cases z:H q2 with|none=>rfl|some o=>rw[((M.trans p).trans g) _ _ z]at n;cases n) O hp hs
end
theorem Dk[BEq b][LawfulBEq b]:∀{l m:List b},l.Nodup->(∀x∈l,x∈m)->l.length<=m.length
 |[],m,_,_=>m_ _|a::l,m,h,g=>by
  obtain⟨h1,h2⟩:=Ry.mp h;have p:=List.perm_cons_erase (g a l_);have:=Dk (m:=m.erase a) h2 λx c=>by
   rcases pv.mp (p.mem_iff.mp (g x (kw _ c)))with rfl|q
   ·exact absurd c h1
   ·exact q
  have e:=p.length_eq;rw[oi]at e⊢;lia
theorem HA[DecidableEq c][BEq c][LawfulBEq c]:∀(d b:List c)(x:c),x∈d.foldl PyProof.Rows.step_dedup b↔x∈b\/x∈d
 |[],b,x=>by simp|k::r,b,x=>by
  rw[z7,HA r];unfold PyProof.Rows.step_dedup
  by_cases e:b.any (λy=>y==k)=true
  ·rw[i_ e];obtain⟨y,f,q⟩:=QD.mp e;have g:k∈b:=by rw[<-eq_of_beq q];exact f
   constructor
   ·rintro(h|h)
    ·exact .inl h
    ·exact .inr (kw _ h)
   ·rintro(h|h)
    ·exact .inl h
    ·rcases pv.mp h with rfl|h
     ·exact .inl g
     ·exact .inr h
  ·rw[ir e];simp only[Rz,List.mem_singleton,pv,or_assoc,oe,false_or]
def MI{b:Type}[DecidableEq b][BEq b][LawfulBEq b]{c:List b}{x:b}(h:x∈dd c):x∈c:=by
 rcases(HA c [] x).mp h with h|h
 ·cases h
 ·exact h
theorem K2[DecidableEq d][BEq d][LawfulBEq d]:∀(f c:List d),c.Nodup->(f.foldl PyProof.Rows.step_dedup c).Nodup
 |[],c,h=>h|k::r,c,h=>by
  rw[z7];refine K2 r _ ?_;unfold PyProof.Rows.step_dedup
  by_cases e:c.any (λy=>y==k)=true
  ·rw[i_ e];exact h
  ·rw[ir e,qx];refine⟨h,by simp,λa g b i=>?_⟩;rw[List.mem_singleton.mp i];rintro rfl;exact e (QD.mpr ⟨a,g,B_ a⟩)
inductive IV(K:RC)(n:Nat)(vs:List V)(H:Hp)(Q:VK)(_E:XK):Prop|mk(r:Ru)(rv:V)(ws:RI)(_:vs=[rv,.int (n:Nat)])(_:eY K H r rv)(_:r.hgt<=n)(_:kA ws r)(_:(∀w∈ws,Wd w))(_:∀H',ao H H'->Q (.bl true) H')
def GS{a b n:Nat}(h:max a b+1<=n+1):a<=n/\b<=n:=by have h1:=QL a b;have h2:=Qz a b;lia
section
theorem sG(T:Txt K mg a):∀n:Nat,aP P w K mg base dI (n+3) a.cq.x a.cq.d ["thing","depth"] (IV K n)
 |0=>by
  refine T.cq.f.ok mj (λz H Q E h=>?_) (λC A outer s H z Q E j h=>?_)
  ·obtain⟨r,D,e,rfl,_⟩:=h;rfl
  ·obtain⟨r,D,e,rfl,_,hh,_⟩:=h;have:=r.hgt_pos;lia|n+1=>by
  have F:=sG T n;refine T.cq.f.ok mj (λz H Q E h=>?_) (λC A outer s H z Q E j h=>?_)
  ·obtain⟨r,D,e,rfl,_⟩:=h;rfl
  ·obtain⟨r,D,e,rfl,O,hh,o,l,q⟩:=h;refine⟨_,(ag (aJ (PW.pt (fb (aC aS (Y 1) af (aE _)) (fb (bZ (aM K rfl (au (dP K rfl) (by rfl) T.bh L2.aQ (ac (Y 0) (ac (jB rfl T.dO L2.bT) ae))) (λ_=>rfl))) (dD (aC aS (au (aG K rfl) (by rfl) T.bp L2.aH (ac (Y 0) ae)) af (aE _)))))) (ah (ax fc)) aA) (ag (bf 2 mj.nd (cS K (Y 0) af)) (ag (aJ (aC aS (Y 2) aB (aE _)) (ah (ax (bW aS (au (aG K rfl) (by rfl) T.bp L2.aH (ac (Y 0) ae)) af (aE _)))) aA) (ag (aJ (aC aS (Y 2) aB (aE _)) (ah (ax (cI (bW aS (au (aG K rfl) (by rfl) T.bp L2.aH (ac (Y 0) ae)) af (aE _)) (dF (bP ((jD T).mono (by first|decide|exact Rw _ _)) j rfl T.eE.m T.eE.f.kp T.eE.b .nil bx (ac (cS K (Y 0) af) ae)))))) aA) (ag (aJ (aC aS (Y 2) aB (aE _)) (ah (ax (cI (bW aS (au (aG K rfl) (by rfl) T.bp L2.aH (ac (Y 0) ae)) af (aE _)) (cI (bP ((jD T).mono (by first|decide|exact Rw _ _)) j rfl T.eE.m T.eE.f.kp T.eE.b .nil bx (ac (cS K (Y 0) af) ae)) (dF (bP ((pG T).mono (by first|decide|exact Rw _ _)) j rfl T.eV.m T.eV.f.kp T.eV.b .nil bx (ac (cS K (Y 0) af) ae))))))) aA) (ag (aJ (aC aS (Y 2) aB (aE _)) (ah (ax (cI (bW aS (au (aG K rfl) (by rfl) T.bp L2.aH (ac (Y 0) ae)) af (aE _)) (dF (bP F j rfl T.cq.m T.cq.f.kp T.cq.b .nil bx (ac (cS K (Y 0) af) (ac (av fu (Y 1) af) ae))))))) aA) (ag (aJ (PW.pt (fb (aC aS (Y 2) aB (aE _)) (dD (aC aS (Y 2) aB (aE _))))) (ah (ax (cI (bW aS (au (aG K rfl) (by rfl) T.bp L2.aH (ac (Y 0) ae)) af (aE _)) (cI (bP F j rfl T.cq.m T.cq.f.kp T.cq.b .nil bx (ac (cS K (Y 0) af) (ac (av fu (Y 1) af) ae))) (dF (bP F j rfl T.cq.m T.cq.f.kp T.cq.b .nil bx (ac (cS K (Y 0) af) (ac (av fu (Y 1) af) ae)))))))) aA) (ah (ax fc))))))))),?_⟩
   have hd:((n+1:Nat):Int)-1=(n:Int):=by lia
   obtain⟨t,z,rfl,B,-⟩:=O.tup;refine U rfl ⟨rfl,U rfl (kW (λh=>absurd h (by exact lh rfl)) (λG=>?_))⟩;refine U rfl ⟨_,"tuple",_,true,rfl,.inr ⟨t,U rfl ⟨B,rfl⟩⟩,fA (by decide+kernel),true,rfl,b0 ?_⟩;refine U rfl ⟨_,U rfl ⟨.inr ⟨_,B,rfl⟩,rfl,U rfl (kW (λh=>absurd h (by rw[oi];exact lh rfl)) (λI=>?_))⟩⟩;refine U rfl (rX B (ak (k:=0) rfl) ?_);refine aq ?_;clear B G I;cases O with
 |any h=>refine U rfl ⟨rfl,U rfl (bO ?_)⟩;refine U rfl ⟨_,U rfl ⟨.inr ⟨_,h,rfl⟩,rfl,?_⟩⟩;exact lr (p:=V.int 1=V.int 1) rfl (q H (ao.refl _))|has h=>cases o with|has hm=>refine U rfl ⟨rfl,U rfl (wn ?_)⟩;refine U rfl ⟨rfl,U rfl (bO ?_)⟩;refine U rfl ⟨_,U rfl ⟨.inr ⟨_,h,rfl⟩,rfl,U rfl (bI ?_)⟩⟩;exact⟨_,rfl,t,_,1,_,rfl,rfl,h,rfl,_,rfl,l _ hm,q⟩
   |least h=>cases o with|least hm h1 h2=>(iterate 2 refine U rfl ⟨rfl,U rfl (wn ?_)⟩);refine U rfl ⟨rfl,U rfl (bO ?_)⟩;refine U rfl ⟨_,U rfl ⟨.inr ⟨_,h,rfl⟩,rfl,U rfl (bI ?_)⟩⟩;refine⟨_,rfl,t,_,1,_,rfl,rfl,h,rfl,_,rfl,l _ hm,λJ c=>⟨_,rfl,bI ?_⟩⟩;exact⟨_,rfl,t,_,2,_,rfl,rfl,ao.tseq c h,rfl,_,rfl,⟨h1,h2⟩,q J c⟩
   |not h h1=>cases o with|not u=>rename_i g i;have hh:g.hgt+1<=n+1:=hh;(iterate 3 refine U rfl ⟨rfl,U rfl (wn ?_)⟩);refine U rfl ⟨rfl,U rfl (bO ?_)⟩;refine U rfl ⟨_,U rfl ⟨.inr ⟨_,h,rfl⟩,rfl,U rfl (bI ?_)⟩⟩;refine U rfl (rX h rfl (U rfl (r2 ?_)));exact⟨g,i,e,by show[i,V.int (((n+1:Nat):Int)-1)]=_;rw[hd],h1,by exact Q8 hh,u,l,q⟩
   |both h h1 h2=>cases o with|both u L=>rename_i g v i y;have hh:=GS (show max g.hgt v.hgt+1<=n+1 from hh);(iterate 4 refine U rfl ⟨rfl,U rfl (wn ?_)⟩);refine U rfl ⟨rfl,U rfl (bO ?_)⟩;refine U rfl ⟨_,U rfl ⟨.inr ⟨_,h,rfl⟩,rfl,U rfl (bI ?_)⟩⟩;refine U rfl (rX h rfl (U rfl (r2 ?_)));refine⟨g,i,e,by show[i,V.int (((n+1:Nat):Int)-1)]=_;rw[hd],h1,hh.1,u,l,λJ c=>(U rfl (bI ?_))⟩;refine U rfl (rX (ao.tseq c h) rfl (U rfl (r2 ?_)));exact⟨v,y,e,by show[y,V.int (((n+1:Nat):Int)-1)]=_;rw[hd],h2.kp (.of c),hh.2,L,l,λM N=>q M (c.trans N)⟩
   |either h h1 h2=>cases o with|either u L=>rename_i g v i y;have hh:=GS (show max g.hgt v.hgt+1<=n+1 from hh);(iterate 5 refine U rfl ⟨rfl,U rfl (wn ?_)⟩);refine U rfl ⟨rfl,U rfl (bO ?_)⟩;refine U rfl ⟨_,U rfl ⟨.inr ⟨_,h,rfl⟩,rfl,U rfl (bI ?_)⟩⟩;refine U rfl (rX h rfl (U rfl (r2 ?_)));refine⟨g,i,e,by show[i,V.int (((n+1:Nat):Int)-1)]=_;rw[hd],h1,hh.1,u,l,λJ c=>(U rfl (bI ?_))⟩;refine U rfl (rX (ao.tseq c h) rfl (U rfl (r2 ?_)));exact⟨v,y,e,by show[y,V.int (((n+1:Nat):Int)-1)]=_;rw[hd],h2.kp (.of c),hh.2,L,l,λM N=>q M (c.trans N)⟩
end
def kA.mem(h:kA c r):∀w∈r.words,w∈c:=by induction h with|any=>exactλw h=>(nomatch h)|has h=>intro w b;rw[List.mem_singleton.mp b];exact h|least h=>intro w b;rw[List.mem_singleton.mp b];exact h|not _ h=>exact h|both _ _ h g=>exactλw b=>(Rz.mp b).elim (h w) (g w)|either _ _ h g=>exactλw b=>(Rz.mp b).elim (h w) (g w)
def kA.few{b:RI}{r:Ru}(h:kA b r):r.wset.length<=b.length:=Dk (K2 r.words [] Qk) λx c=>h.mem x (MI c)
inductive FI(K:RC)(vs:List V)(H:Hp)(Q:VK)(_E:XK):Prop|mk(r:Ru)(rv:V)(ws:RI)(_:vs=[rv])(_:eY K H r rv)(_:r.hgt<=6)(_:r.cnt<=30)(_:kA ws r)(_:(∀w∈ws,Wd w))(_:ws.length<=3)(_:∀H',ao H H'->Q (.bl true) H')
section
def B3(T:Txt K mg a):aP P w K mg base dI 10 a.nh.x a.nh.d ["thing"] (FI K):=by
 refine T.nh.ok BN λv A outer s H L Q E c h=>?_
 ·obtain⟨r,e,y,rfl,g,hh,hc,o,z,M,q⟩:=h;refine⟨_,(ag (aJ (bZ (aM K rfl (bP ((sG T 6).mono (by decide)) c rfl T.cq.m T.cq.f.kp T.cq.b .nil bx (ac (Y 0) (ac (cA T.vC rfl) ae))) (λ_=>rfl))) (ah (ax fc)) aA) (ah (ax (cI (bW j4 (au (aG K rfl) (by rfl) T.bp L2.aH (ac (bP ((kr T 6).mono (by decide)) c rfl T.bU.m T.bU.f.kp T.bU.b .nil bx (ac (Y 0) ae)) ae)) (cA T.zy rfl) (aE _)) (dF (bW j4 (au (aG K rfl) (by rfl) T.bp L2.aH (ac (pc T.kG (Au T) c (ac (Y 0) ae)) ae)) (cA T.zv rfl) (aE _))))))),?_⟩
  refine U rfl ⟨r,e,y,rfl,g,hh,o,z,λN i=>(U rfl (b0 ?_))⟩;refine U rfl ⟨r,e,rfl,g.kp (.of i),hh,f_ _,λl p O t B j k=>?_⟩;have C:p.length=r.subs.length:=(Paired.length k).symm;unfold Ru.cnt at hc;refine⟨_,p.length,rfl,.inl ⟨_,aO.of j,rfl⟩,_,U rfl ⟨rfl,U rfl (nB (λ_=>?_) (λh=>absurd (by lia) h))⟩⟩;refine U rfl ⟨r,e,rfl,g.kp (.of (i.trans t)),hh,λR u D F G n I _=>?_⟩;have S:=o.few;have J:=I.length_eq;refine⟨_,u.length,rfl,.inl ⟨_,aO.of n,by simp⟩,_,U rfl ⟨rfl,?_⟩⟩;exact lr (show((u.length:Nat):Int)<=3 by lia) (q D ((i.trans t).trans F))
end
inductive IU(K:RC)(h:Nat)(vs:List V)(H:Hp)(Q:VK)(_E:XK):Prop|mk(r:Ru)(rv:V)(ms:List (Str×Int))(mv:V)(_:vs=[rv,mv])(_:eY K H r rv)(_:r.hgt<=h)(_:tZ K H ms mv)(_:ms.length<=100)(_:∀H',ao H H'->Q (.bl (r.sat ms)) H')
section
theorem AB(T:Txt K mg a):∀h:Nat,aP P w K mg base dI (h+1) a.dL.x a.dL.d ["rule","marks"] (IU K h)
 |0=>by
  refine T.dL.f.ok uC (λvs H Q E h=>?_) (λaa A outer s H vs Q E R h=>?_)
  ·obtain⟨r,rv,k,mv,rfl,_⟩:=h;rfl
  ·obtain⟨r,rv,k,mv,rfl,_,hh,_⟩:=h;have:=r.hgt_pos;lia|n+1=>by
  have W:=AB T n;refine T.dL.f.ok uC (λvs H Q E h=>?_) (λaa A outer s H vs Q E R h=>?_)
  ·obtain⟨r,rv,k,mv,rfl,_⟩:=h;rfl
  ·obtain⟨r,rv,k,mv,rfl,hR,hh,S,p,q⟩:=h;obtain⟨mt,l,rfl,I,X,Z⟩:=id S;refine⟨_,(ag (bf 2 uC.nd (cS K (Y 0) af)) (ag (aJ (aC aS (Y 2) aB (aE _)) (ah (ax fc)) aA) (ag (aJ (aC aS (Y 2) aB (aE _)) (ah (ax (au (nq K rfl rfl) (by rfl) T.Dm L2.qa (ac (wb qg ["mark"] [] [3] (aj pz) (ck 3) (iC K rfl (Y 1)) (λcl C s₀ H₀ ex=>⟨(nz qg ["mark"] 3),bY,(bW aS (cS K (Y 3) af) (cS K (Y 0) af) (aE _))⟩)) ae)))) aA) (ag (aJ (aC aS (Y 2) aB (aE _)) (ah (ax (au (nq K rfl rfl) (by rfl) T.Dm L2.qa (ac (wb qg ["mark"] [] [3] (aj pz) (ck 3) (iC K rfl (Y 1)) (λcl C s₀ H₀ ex=>⟨(nz qg ["mark"] 3),bY,(cI (bW aS (cS K (Y 3) af) (cS K (Y 0) af) (aE _)) (dF (bW KQ (cS K (Y 3) af) (cS K (Y 0) af) (aE _))))⟩)) ae)))) aA) (ag (aJ (aC aS (Y 2) aB (aE _)) (ah (ax (Gd (bP W R rfl T.dL.m T.dL.f.kp T.dL.b .nil bx (ac (cS K (Y 0) af) (ac (Y 1) ae)))))) aA) (ag (aJ (aC aS (Y 2) aB (aE _)) (ah (ax (cI (bP W R rfl T.dL.m T.dL.f.kp T.dL.b .nil bx (ac (cS K (Y 0) af) (ac (Y 1) ae))) (dF (bP W R rfl T.dL.m T.dL.f.kp T.dL.b .nil bx (ac (cS K (Y 0) af) (ac (Y 1) ae))))))) aA) (ah (ax (N4 (bP W R rfl T.dL.m T.dL.f.kp T.dL.b .nil bx (ac (cS K (Y 0) af) (ac (Y 1) ae))) (dF (bP W R rfl T.dL.m T.dL.f.kp T.dL.b .nil bx (ac (cS K (Y 0) af) (ac (Y 1) ae))))))))))))),?_⟩
   have c:∀{A B:Prop}{x y:Str},x≠y->B->if decide (V.str x=V.str y)=true then A else B:=λh b=>G5 (λe=>absurd e h) (λ_=>b)
   have j:∀{A B:Prop}{x:Str},A->if decide (V.str x=V.str x)=true then A else B:=λa=>G5 (λ_=>a) (λh=>absurd rfl h)
   cases hR with|any h=>refine U rfl (rX h rfl ?_);exact U rfl ⟨rfl,U rfl (j (q _ (ao.refl _)))⟩|has h=>
    refine U rfl (rX h rfl ?_);refine U rfl ⟨rfl,U rfl (c (by decide+kernel) ?_)⟩;refine U rfl ⟨rfl,U rfl (j ?_)⟩;rename_i ra wd;refine U rfl ⟨mt,rfl,⟨_,I⟩,λD hD=>?_⟩;have t:∀g,ao H (az H D (.lst g)):=λg=>ai (ao.refl _) hD;refine gt (K:=K) (a:=mt) (xs:=l) (λi g H'=>g=((k.take i).map (Ow wd)).map V.bl/\H'=az H D (.lst g)) ⟨by rw[x_];rfl,rfl⟩ (λi g H' _ h=>h.2▸ao.tseq (t _) I) ?_ ?_
    ·rintro i v g _ L⟨rfl,rfl⟩;have hi:i<l.length:=(d_.mp L).1;obtain⟨b,hb,hB⟩:=Z i (k[i]'(by lia)) (hY (by lia));rw[hb]at L;cases L;refine aq (jm (bI ?_));refine U rfl (rX (ao.tseq (t _) hB) rfl (U rfl (rX (ao.tseq (t _) h) rfl ⟨rfl,O,?_,lf hi ⟨?_,?_⟩⟩)))
     ·rw[c_,c_,no,j1];lia
     ·rw[um (hY (by lia)),il];rfl
     ·rw[fZ]
    ·rintro g _⟨rfl,rfl⟩;refine⟨D,_,rfl,aO.of O,?_⟩;rw[X,ku (f_ _)];exact q _ (t _)|least h=>
    refine U rfl (rX h rfl ?_);(iterate 2 refine U rfl ⟨rfl,U rfl (c (by decide+kernel) ?_)⟩);refine U rfl ⟨rfl,U rfl (j ?_)⟩;rename_i ra wd F;refine U rfl ⟨mt,rfl,⟨_,I⟩,λD hD=>?_⟩;have t:∀g,ao H (az H D (.lst g)):=λg=>ai (ao.refl _) hD;refine gt (K:=K) (a:=mt) (xs:=l) (λi g H'=>g=((k.take i).map (gM wd F)).map V.bl/\H'=az H D (.lst g)) ⟨by rw[x_];rfl,rfl⟩ (λi g H' _ h=>h.2▸ao.tseq (t _) I) ?_ ?_
    ·rintro i v g _ L⟨rfl,rfl⟩;have hi:i<l.length:=(d_.mp L).1;obtain⟨b,hb,hB⟩:=Z i (k[i]'(by lia)) (hY (by lia));rw[hb]at L;cases L;have fin:∀b,b=gM wd F (k[i]'(by lia))->az H D (.lst (((k.take i).map (gM wd F)).map V.bl)) D=some (.lst (((k.take i).map (gM wd F)).map V.bl))/\(((k.take i).map (gM wd F)).map V.bl).length<sizeLine/\∃m',m'<l.length-i/\m'=l.length-(i+1)/\i+1<=l.length/\((((k.take i).map (gM wd F)).map V.bl++[V.bl b]=((k.take (i+1)).map (gM wd F)).map V.bl)/\az (az H D (.lst (((k.take i).map (gM wd F)).map V.bl))) D (.lst (((k.take i).map (gM wd F)).map V.bl++[V.bl b]))=az H D (.lst (((k.take i).map (gM wd F)).map V.bl++[V.bl b]))):=λb eb=>by
      refine⟨O,?_,lf hi ⟨?_,?_⟩⟩
      ·rw[c_,c_,no,j1];lia
      ·rw[um (hY (by lia)),il,eb];rfl
      ·rw[fZ]
     refine aq (jm (bI ?_));refine U rfl (rX (ao.tseq (t _) hB) rfl (U rfl (rX (ao.tseq (t _) h) rfl ⟨rfl,U rfl (G5 (λe=>?_) (λe=>?_))⟩)))
     ·refine U rfl (rX (ao.tseq (t _) hB) rfl (U rfl (rX (ao.tseq (t _) h) rfl (r2 (fin _ ?_)))));unfold gM;rw[i_ (by rw[e];exact m3 rfl)]
     ·refine fin _ ?_;unfold gM;rw[ir (by rw[nk (λz=>e (V.str.inj z))];exact lm)]
    ·rintro g _⟨rfl,rfl⟩;refine⟨D,_,rfl,aO.of O,?_⟩;rw[X,ku (f_ _)];exact q _ (t _)|not h h1=>rename_i ra G v;have hq:G.hgt+1<=n+1:=hh;refine U rfl (rX h rfl ?_);(iterate 3 refine U rfl ⟨rfl,U rfl (c (by decide+kernel) ?_)⟩);refine U rfl ⟨rfl,U rfl (j ?_)⟩;exact U rfl (rX h rfl (U rfl ⟨G,v,k,_,rfl,h1,by exact Q8 hh,S,p,λH' o=>(U rfl (q H' o))⟩))|both h h1 h2=>
    rename_i ra G M v u;have hq:max G.hgt M.hgt+1<=n+1:=hh;refine U rfl (rX h rfl ?_);(iterate 4 refine U rfl ⟨rfl,U rfl (c (by decide+kernel) ?_)⟩);refine U rfl ⟨rfl,U rfl (j ?_)⟩;refine U rfl (rX h rfl (U rfl ⟨G,v,k,_,rfl,h1,by lia,S,p,λH' o=>(U rfl ?_)⟩));have J:∀H',ao H H'->Q (.bl (if G.sat k=true then M.sat k else false)) H':=q;refine y9 (λe=>?_) (λe=>?_)
    ·rw[i_ e]at J;exact U rfl (rX (ao.tseq o h) rfl (U rfl ⟨M,u,k,_,rfl,h2.kp (.of o),by lia,S.kp (.of o),p,λH2 N=>J H2 (o.trans N)⟩))
    ·rw[ir (by rw[e];exact lm)]at J;exact J H' o|either h h1 h2=>
    rename_i ra G M v u;have hq:max G.hgt M.hgt+1<=n+1:=hh;refine U rfl (rX h rfl ?_);(iterate 5 refine U rfl ⟨rfl,U rfl (c (by decide+kernel) ?_)⟩);refine U rfl (rX h rfl (U rfl ⟨G,v,k,_,rfl,h1,by lia,S,p,λH' o=>(U rfl ?_)⟩));have J:∀H',ao H H'->Q (.bl (if G.sat k=true then true else M.sat k)) H':=q;refine y9 (λe=>?_) (λe=>?_)
    ·rw[i_ e]at J;exact J H' o
    ·rw[ir (by rw[e];exact lm)]at J;exact U rfl (rX (ao.tseq o h) rfl (U rfl ⟨M,u,k,_,rfl,h2.kp (.of o),by lia,S.kp (.of o),p,λH2 N=>J H2 (o.trans N)⟩))
end
inductive I0(vs:List V)(H:Hp)(Q:VK)(_E:XK):Prop|mk(x:_)(_:vs=[.str x])(_:Wd x)(_:∀H',ao H H'->Q .non H')
inductive Je(K:RC)(vs:List V)(H:Hp)(Q:VK)(_E:XK):Prop|mk(p:Addr)(l:RI)(_:vs=[.ref p])(_:aT K H p (l.map V.str))(_:(∀w∈l,Wd w))(_:l.Nodup)(_:1<=l.length)(_:l.length<=4)(_:∀H',ao H H'->Q .non H')
inductive Ja(K:RC)(vs:List V)(H:Hp)(Q:VK)(_E:XK):Prop|mk(r:Ru)(rv:V)(ws:RI)(_:vs=[rv])(_:eY K H r rv)(_:r.hgt<=6)(_:r.cnt<=30)(_:kA ws r)(_:(∀w∈ws,Wd w))(_:ws.length<=3)(_:∀H',ao H H'->Q .non H')
inductive FR(vs:List V)(H:Hp)(Q:VK)(_E:XK):Prop|mk(x:_)(_:vs=[.str x])(_:Bw x)(_:∀H',ao H H'->Q .non H')
inductive FP(K:RC)(vs:List V)(H:Hp)(Q:VK)(_E:XK):Prop|mk(v:V)(l:List (Str×Int))(_:vs=[v])(_:tZ K H l v)(_:(∀m∈l,Wd m.1/\-df<=m.2/\m.2<=df))(_:(l.map Prod.fst).Nodup)(_:l.length<=8)(_:∀H',ao H H'->Q .non H')
inductive FS(vs:List V)(H:Hp)(Q:VK)(_E:XK):Prop|mk(z:_)(_:vs=[.int z])(_:0<=z)(_:Q .non H)
inductive Ed(K:RC)(vs:List V)(H:Hp)(Q:VK)(_E:XK):Prop|mk(p:Addr)(l:RN)(_:vs=[.ref p,.int (l.length:Nat)])(_:aT K H p (l.map V.int))(_:(∀i∈l,0<=i))(_:l.length<=100)(_:∀H',ao H H'->Q .non H')
inductive Jd(K:RC)(vs:List V)(H:Hp)(Q:VK)(_E:XK):Prop|mk(z:Int)(p:Addr)(l:RN)(_:vs=[.int z,.ref p,.int (l.length:Nat)])(_:(0<=z/\z<=1000))(_:aT K H p (l.map V.int))(_:(∀i∈l,1<=i/\i<=df))(_:l.length<=100)(_:∀H',ao H H'->Q .non H')
section
def nN(T:Txt K mg a):aP P w K mg base dI 3 a.fD.x a.fD.d ["thing"] I0:=by
 refine T.fD.ok wk λb A outer s H i Q E c h=>?_
 ·obtain⟨x,rfl,e,q⟩:=h;refine⟨_,(ah (aJ (bZ (aM K rfl (pc T.eE (jD T) c (ac (Y 0) ae)) (λ_=>rfl))) (ah cz) aA)),?_⟩;exact U rfl ⟨x,rfl,e,λf g=>(U rfl (b0 (q f g)))⟩
def wD(T:Txt K mg a):aP P w K mg base dI 4 a.gS.x a.gS.d ["thing"] (Je K):=by
 refine T.gS.ok wq λb A outer s H g Q E c h=>?_
 ·obtain⟨p,l,rfl,h1,h2,h3,h4,h5,q⟩:=h;refine⟨_,(ah (aJ (bZ (aM K rfl (pc T.k8 (AC T) c (ac (Y 0) ae)) (λ_=>rfl))) (ah cz) aA)),?_⟩;exact U rfl ⟨p,l,rfl,h1,h2,h3,h4,h5,λe f=>(U rfl (b0 (q e f)))⟩
def wz(T:Txt K mg a):aP P w K mg base dI 11 a.gP.x a.gP.d ["thing"] (Ja K):=by
 refine T.gP.ok wm λb A outer s H j Q E c h=>?_
 ·obtain⟨r,e,f,rfl,h1,h2,h3,h4,h5,h6,q⟩:=h;refine⟨_,(ah (aJ (bZ (aM K rfl (pc T.nh (B3 T) c (ac (Y 0) ae)) (λ_=>rfl))) (ah cz) aA)),?_⟩;exact U rfl ⟨r,e,f,rfl,h1,h2,h3,h4,h5,h6,λg i=>(U rfl (b0 (q g i)))⟩
def gi(T:Txt K mg a):aP P w K mg base dI 3 a.dq.x a.dq.d ["thing"] FR:=by
 refine T.dq.ok uH λb A outer s H i Q E c h=>?_
 ·obtain⟨x,rfl,e,q⟩:=h;refine⟨_,(ah (aJ (bZ (aM K rfl (pc T.kZ (AA T) c (ac (Y 0) ae)) (λ_=>rfl))) (ah cz) aA)),?_⟩;exact U rfl ⟨x,rfl,e,λf g=>(U rfl (b0 (q f g)))⟩
def uY(T:Txt K mg a):aP P w K mg base dI 5 a.fO.x a.fO.d ["thing"] (FP K):=by
 refine T.fO.ok uF λb A outer s H g Q E c h=>?_
 ·obtain⟨v,l,rfl,h1,h2,h3,h4,q⟩:=h;refine⟨_,(ah (aJ (bZ (aM K rfl (pc T.jk (yC T) c (ac (Y 0) ae)) (λ_=>rfl))) (ah cz) aA)),?_⟩;exact U rfl ⟨v,l,rfl,h1,h2,h3,h4,λe f=>(U rfl (b0 (q e f)))⟩
def u0(T:Txt K mg a):aP P w K mg base dI 3 a.fQ.x a.fQ.d ["thing"] FS:=by
 refine T.fQ.ok uI λb A outer s H e Q E c h=>?_
 ·obtain⟨z,rfl,h0,q⟩:=h;refine⟨_,(ah (aJ (bZ (aM K rfl (pc T.fm (iK T) c (ac (Y 0) ae)) (λ_=>rfl))) (ah cz) aA)),?_⟩;exact U rfl ⟨z,rfl,h0,U rfl (b0 q)⟩
def tJ(T:Txt K mg a):aP P w K mg base dI 4 a.eW.x a.eW.d ["thing","many"] (Ed K):=by
 refine T.eW.ok tE λb A outer s H g Q E c h=>?_
 ·obtain⟨p,l,rfl,h1,h2,h3,q⟩:=h;refine⟨_,(ah (aJ (bZ (aM K rfl (pc T.gT (wE T) c (ac (Y 0) (ac (Y 1) ae))) (λ_=>rfl))) (ah cz) aA)),?_⟩;exact U rfl (U rfl ⟨p,l,rfl,h1,h2,h3,λe f=>(U rfl (b0 (q e f)))⟩)
def qS(T:Txt K mg a):aP P w K mg base dI 4 a.ee.x a.ee.d ["total","weights","many"] (Jd K):=by
 refine T.ee.ok qH λc A outer s H i Q E b h=>?_
 ·obtain⟨z,p,l,rfl,e,h1,h2,h3,q⟩:=h;refine⟨_,(ah (aJ (PW.pt (fb (bZ (aM K rfl (pc T.kX (Ay T) b (ac (Y 0) ae)) (λ_=>rfl))) (dD (bZ (aM K rfl (pc T.fT (u3 T) b (ac (Y 1) (ac (Y 2) ae))) (λ_=>rfl)))))) (ah cz) aA)),?_⟩;refine U rfl ⟨z,rfl,e,U rfl (b0 ?_)⟩;exact U rfl (U rfl ⟨p,l,rfl,h1,h2,h3,λf g=>(U rfl (b0 (q f g)))⟩)
end
inductive Ea(vs:List V)(H:Hp)(Q:VK)(_E:XK):Prop|mk(z:Int)(_:vs=[.int z])(_:(2<=z/\z<=997))(_:(∀i:Nat,2+(i:Int)<z->z%(2+(i:Int))≠0))(_:∀H',ao H H'->Q (.bl true) H')
inductive FH(vs:List V)(H:Hp)(Q:VK)(_E:XK):Prop|mk(z:_)(_:vs=[.int z])(_:(0<=z/\z<=df))(_:Q (.bl true) H)
inductive FQ(vs:List V)(H:Hp)(Q:VK)(_E:XK):Prop|mk(z s:Int)(_:vs=[.int z,.int s])(_:(2<=z/\z<=997))(_:(∀i:Nat,2+(i:Int)<z->z%(2+(i:Int))≠0))(_:(0<=s/\s<=df))(_:∀H',ao H H'->Q .non H')
inductive LO(vs:List V)(H:Hp)(Q:VK)(_E:XK):Prop|mk(x:Str)(d:Addr)(kvs:List (bL×V))(_:vs=[.str x,.ref d])(_:Wd x)(_:H d=some (.dK kvs))(_:aW kvs (.inr x)=none)(_:∀H',ao H H'->Q .non H')
inductive FM(vs:List V)(H:Hp)(Q:VK)(_E:XK):Prop|mk(x:Str)(d:Addr)(kvs:List (bL×V))(_:vs=[.str x,.ref d])(_:Wd x)(_:H d=some (.dK kvs))(_:(aW kvs (.inr x)).isSome=true)(_:∀H',ao H H'->Q .non H')
theorem mS:∀b:List Str,(b.map V.str).all nV=true|[]=>rfl|w::r=>by rw[np,P8,mS r];rfl
def G7{w:Str}{b:RI}(h:w∈b):nC (.str w) (b.map V.str)=true:=by unfold nC;rw[QD];exact⟨.str w,mo.mpr ⟨w,h,rfl⟩,by show(w==w)=true;exact B_ w⟩
section
def Az(T:Txt K mg a):aP P w K mg base dI 2 a.kY.x a.kY.d ["thing"] Ea:=by
 refine T.kY.ok Ae λe A outer s H j Q E f h=>?_
 ·obtain⟨z,rfl,⟨h1,h2⟩,hd,q⟩:=h;refine⟨_,(ag (aJ (PW.pt (fb (bZ (aM K rfl (pc T.gp (j5 T) f (ac (Y 0) ae)) (λ_=>rfl))) (dD (bZ (Am j4 j4 (cA T.xa rfl) (Y 0) (cA T.r6 rfl)))))) (ah (ax fc)) aA) (ah (ax (au (jj K rfl rfl) (by rfl) T.xx L2.k7 (ac (wb ["thing"] ["divisor"] [] [1] (aj lz) (ck 1) (xr rfl T.eD (ac af (ac (Y 0) ae))) (λcl C s₀ H₀ ex=>⟨(nz ["thing"] ["divisor"] 1),bY,(bW As (av aR (Y 0) (Y 1)) af (aE _))⟩)) ae))))),?_⟩
  refine U rfl ⟨z,rfl,U rfl (b0 ?_)⟩;refine U rfl (r2 (U rfl ?_));refine nB (λ_=>?_) (λh=>absurd h1 h);refine r2 (U rfl ?_);rw[m3 h2];refine b0 ?_;refine U rfl ⟨_,U rfl ⟨⟨by decide,by decide,by lia,by lia⟩,λD g=>?_⟩⟩;refine fC (K:=K) (lo:=2) (n:=(z-2).toNat) (λi b c=>b=(List.replicate i true).map V.bl/\c=az H D (.lst b)) ⟨rfl,rfl⟩ ?_ ?_
  ·rintro i b c hi⟨rfl,rfl⟩;refine aq (jm (bI (U rfl (U rfl (r2 ⟨(by show(0:Int)<_;first|decide|lia),rfl,?_⟩)))));refine⟨O,kH i (by omega),lf hi ⟨?_,by rw[fZ]⟩⟩;have hn:=hd i (by omega);rw[<-jo]
   congr 2
   simp[hn]
  ·rintro b c⟨rfl,rfl⟩;refine⟨D,_,rfl,aO.of O,?_⟩;rw[kI];exact q _ (ai (ao.refl _) g)
def BZ(T:Txt K mg a):aP P w K mg base dI 3 a.ng.x a.ng.d ["thing"] FH:=by
 refine T.ng.ok BM λb A outer s H e Q E c h=>?_
 ·obtain⟨z,rfl,⟨h1,h2⟩,q⟩:=h;refine⟨_,(ah (ax (cI (pc T.fm (iK T) c (ac (Y 0) ae)) (dF (bW j4 (Y 0) (av uT af af) (aE _)))))),?_⟩;refine U rfl ⟨z,rfl,h1,U rfl (bI ?_)⟩
  walk_at "a"
  exact lr h2 q
def uZ(T:Txt K mg a):aP P w K mg base dI 4 a.fP.x a.fP.d ["prime","salt"] FQ:=by
 refine T.fP.ok uG λc A outer s H g Q E b h=>?_
 ·obtain⟨z,sa,rfl,h1,h2,h3,q⟩:=h;refine⟨_,(ah (aJ (PW.pt (fb (bZ (aM K rfl (pc T.kY (Az T) b (ac (Y 0) ae)) (λ_=>rfl))) (dD (bZ (aM K rfl (pc T.ng (BZ T) b (ac (Y 1) ae)) (λ_=>rfl)))))) (ah cz) aA)),?_⟩;refine U rfl ⟨z,rfl,h1,h2,λe f=>(U rfl (b0 ?_))⟩;exact U rfl ⟨sa,rfl,h3,U rfl (b0 (q e f))⟩
def pH(T:Txt K mg a):aP P w K mg base dI 4 a.gQ.x a.gQ.d ["thing","names"] LO:=by
 refine T.gQ.ok yq λe A outer s H i Q E b h=>?_
 ·obtain⟨x,d,f,rfl,h1,h2,h3,q⟩:=h;refine⟨_,(ag (aN (pc T.fD (nN T) b (ac (Y 0) ae))) (ah (aJ (qO (BW (cj b) (Y 0) (Y 1)) rfl) (ah cz) aA))),?_⟩
  refine U rfl ⟨x,rfl,h1,λg c=>?_⟩;refine U rfl (U rfl (rG none (by rw[<-h3];exact d0.k (k:=.inr x) (c _ _ h2)) (U rfl (b0 (q g c)))))
def dh(T:Txt K mg a):aP P w K mg base dI 4 a.bM.x a.bM.d ["thing","names"] FM:=by
 refine T.bM.ok pi λf A outer s H i Q E c h=>?_
 ·obtain⟨x,d,b,rfl,h1,h2,h3,q⟩:=h;refine⟨_,(ag (aN (pc T.fD (nN T) c (ac (Y 0) ae))) (ah (aJ (qO (qR (cj c) (Y 0) (Y 1)) rfl) (ah cz) aA))),?_⟩
  refine U rfl ⟨x,rfl,h1,λg e=>?_⟩;refine U rfl (U rfl (rG (aW b (.inr x)) (d0.k (k:=.inr x) (e _ _ h2)) (U rfl ?_)));rw[h3];exact b0 (q g e)
end
abbrev Pl:=ca×V×List Int
def eX(H:Hp)(tk:List iX)(m:List Pl):Prop:=Paired (λ(x:iX)(y:Pl)=>x.1=y.1/\x.2.1=y.2.1/\∃l,x.2.2=.ref l/\H l=some (.lst (y.2.2.map V.int))) tk m
structure eF(P:RH)(w:World)(K:RC)(C:Addr)(H:Hp)(t od td:Addr)(n:Nat)(ow:List (bL×V))(tk:List iX)(m:List Pl):Prop where
 ins:∃dx,H t=some (.ins C dx [("many",.int n),("owners",.ref od),("taken",.ref td)])own:H od=some (.dK ow)tak:H td=some (dM P w td tk)keys:eA K H tk
 lsts:eX H tk m
def eX.same(e:ao H H')(h:eX H tk m):eX H' tk m:=Paired.mapP h λ_ _ h=>⟨h.1,h.2.1,h.2.2.imp λ_ q=>⟨q.1,e _ _ q.2⟩⟩
def oK(e:ao H H')(h:c6 K H k v):c6 K H' k v:=by cases k with|inl k=>exact h|inr b=>obtain⟨a,h1,h2⟩:=h;exact⟨a,h1,ao.tseq e h2⟩
theorem eF.same(e:ao H H')(h:eF P w K C H t b c n ow tk m):eF P w K C H' t b c n ow tk m:=⟨let⟨dx,i⟩:=h.ins;⟨dx,e _ _ i⟩,e _ _ h.own,e _ _ h.tak,λx d=>oK e (h.keys x d),h.lsts.same e⟩
def eX.val(h:eX H tk m)(k:ca):(∃l b,fk tk k=some (.ref l)/\fk m k=some b/\H l=some (.lst (b.map V.int)))\/(fk tk k=none/\fk m k=none):=by induction h with|nil=>exact .inr ⟨rfl,rfl⟩|@cons x y _ _ h _ c=>
  unfold fk at c⊢;rw[so,so,<-h.1]
  by_cases e:x.1=k
  ·rw[m3 e];exact .inl (h.2.2.imp λ_ q=>⟨y.2.2,tl some q.1,rfl,q.2⟩)
  ·rw[nk e];exact c
def bj(m:List Pl)(k:ca):List Int:=(fk m k).getD []
def gq(n:Nat)(ow:List (bL×V)):List Int:=((List.range n).filter λ(i:Nat)=>(aW ow (.inl (i:Int))).isNone).map λ(i:Nat)=>(i:Int)
inductive LG(P:RH)(w:World)(K:RC)(C:Addr)(vs:List V)(H:Hp)(Q:VK)(_E:XK):Prop|mk(t dx:Addr)(n:Nat)(_:vs=[.ref t,.int n])(_:H t=some (.ins C dx []))(_:H dx=some (.own t))(_:∀(od td:Addr)H',H od=none->H td=none->(∀b o,H b=some o->b≠t->H' b=some o)->eF P w K C H' t od td n [] [] []->Q .non H')
inductive D9(P:RH)(w:World)(K:RC)(C:Addr)(vs:List V)(H:Hp)(Q:VK)(_E:XK):Prop|mk(t od td:Addr)(n:Nat)(ow:List (bL×V))(tk:List iX)(m:List Pl)(p:Int)(_:vs=[.ref t,.int p])(_:eF P w K C H t od td n ow tk m)(_:Q ((aW ow (.inl p)).getD .non) H)
inductive BI(P:RH)(w:World)(K:RC)(C:Addr)(vs:List V)(H:Hp)(Q:VK)(_E:XK):Prop|mk(t od td:Addr)(n:Nat)(ow:List (bL×V))(tk:List iX)(m:List Pl)(k:ca)(kv:V)(_:vs=[.ref t,kv])(_:eF P w K C H t od td n ow tk m)(_:c6 K H k kv)(_:∀(l:Addr)H',ao H H'->H l=none->H' l=some (.lst ((bj m k).map V.int))->Q (.ref l) H')
inductive LJ(P:RH)(w:World)(K:RC)(C:Addr)(vs:List V)(H:Hp)(Q:VK)(_E:XK):Prop|mk(t od td:Addr)(n:Nat)(ow:List (bL×V))(tk:List iX)(m:List Pl)(_:vs=[.ref t])(_:eF P w K C H t od td n ow tk m)(_:n<=1000)(_:∀(l:Addr)H',ao H H'->H l=none->H' l=some (.lst ((gq n ow).map V.int))->Q (.ref l) H')
section
def tL(T:Txt K mg a):aP P w K mg base dI 1 a.dU.x a.dU.d ["self","many"] (LG P w K a.bN):=by
 refine T.dU.ok tG λF A outer s H L Q E M h=>?_
 ·obtain⟨t,dx,n,rfl,G,N,q⟩:=h;refine⟨_,(ag (cw K rfl (Y 0) (Y 1)) (ag (cw K rfl (Y 0) iJ) (ah (cw K rfl (Y 0) (Gf (P:=P) (w:=w)))))),?_⟩
  refine U rfl (U rfl ⟨t,_,dx,U rfl ⟨G,T.bv,T.nR,by decide,?_⟩⟩);have v:eL "many" (V.int n) []=([("many",V.int n)]:List (Str×V)):=rfl;rw[v];have i:az H t (.ins a.bN dx [("many",V.int n)]) t=some (.ins a.bN dx [("many",V.int n)]):=O;have f1:∀b o,H b=some o->b≠t->az H t (.ins a.bN dx [("many",V.int n)]) b=some o:=λb o e j=>by rw[am j];exact e
  generalize az H t (.ins a.bN dx [("many",V.int n)])=u at i f1⊢;refineλc g=>(U rfl ⟨t,_,dx,U rfl ⟨by rw[am (aD i g)];exact i,T.bv,T.d7,by simp,?_⟩⟩);have y:eL "owners" (V.ref c) [("many",V.int n)]=([("many",V.int n),("owners",V.ref c)]:List (Str×V)):=rfl;rw[y];have B:c≠t:=λz=>by rw[z,i]at g;cases g
  have k:az (az u c (.dK [])) t (.ins a.bN dx [("many",V.int n),("owners",V.ref c)]) t=some (.ins a.bN dx [("many",V.int n),("owners",V.ref c)]):=O;have m:az (az u c (.dK [])) t (.ins a.bN dx [("many",V.int n),("owners",V.ref c)]) c=some (.dK []):=by rw[am B];exact O
  have f2:∀b o,H b=some o->b≠t->az (az u c (.dK [])) t (.ins a.bN dx [("many",V.int n),("owners",V.ref c)]) b=some o:=λb o e j=>by rw[am j,am (λz=>by rw[<-z,f1 b o e j]at g;cases g)];exact f1 b o e j
  generalize az (az u c (.dK [])) t (.ins a.bN dx [("many",V.int n),("owners",V.ref c)])=R at k m f2⊢;refineλl f=>(U rfl ⟨t,_,dx,U rfl ⟨by rw[am (aD k f)];exact k,T.bv,T.gk,by simp,?_⟩⟩);have C:eL "taken" (V.ref l) [("many",V.int n),("owners",V.ref c)]=([("many",V.int n),("owners",V.ref c),("taken",V.ref l)]:List (Str×V)):=rfl;rw[C];have D:l≠t:=λz=>by rw[z,k]at f;cases f
  have I:c≠l:=λz=>by rw[<-z,m]at f;cases f
  have p:H c=none:=by cases z:H c with|none=>rfl|some o=>rw[f1 c o z B]at g;cases g
  have r:H l=none:=by cases z:H l with|none=>rfl|some o=>rw[f2 l o z D]at f;cases f
  refine q c l _ p r (λb o e j=>?_) ⟨⟨dx,O⟩,by rw[am B,am I];exact m,by rw[am D];exact O,λx J=>(by cases J),.nil⟩;rw[am j,am (λz=>by rw[<-z,f2 b o e j]at f;cases f)];exact f2 b o e j
def fw(T:Txt K mg a):aP P w K mg base dI 1 a.bq.x a.bq.d ["self","owner"] (BI P w K a.bN):=by
 refine T.bq.ok oo λv A outer s H F Q E y h=>?_
 ·obtain⟨t,G,z,n,ow,tk,m,k,kv,rfl,i,B,q⟩:=h;refine⟨_,(ah (ax (db (oS K rfl) (by rfl) T.u7 L2.k6 (ac (Ge (P:=P) (w:=w) K rfl (cj y) (aI K rfl (Y 0)) (Y 1) (bg ae) ⟨rfl,rfl,rfl,rfl⟩) ae)))),?_⟩;obtain⟨dx,C⟩:=i.ins;refine U rfl ⟨t,_,dx,_,U rfl ⟨C,T.bv,T.gk,rfl,z,tk,rfl,i.tak,U rfl ⟨ls rfl,λg j=>?_⟩⟩⟩;have e:=ai (o:=.lst []) (ao.refl H) j;have c:az H g (.lst []) g=some (.lst []):=O;generalize az H g (.lst [])=I at e c⊢;have f:=i.same e;refine⟨tk,k,f.tak,f.keys,oK e B,?_⟩;rcases f.lsts.val k with⟨l,J,p,r,D⟩|⟨p,r⟩
  ·rw[p];refine⟨l,U rfl ⟨.inl (aO.of D),λu b=>q u _ (ai e b) (e.free b) ?_⟩⟩;unfold bj;rw[r];exact O
  ·rw[p];refine⟨g,U rfl ⟨.inl (aO.of c),λu b=>q u _ (ai e b) (e.free b) ?_⟩⟩;unfold bj;rw[r];exact O
def nP(T:Txt K mg a):aP P w K mg base dI 1 a.dS.x a.dS.d ["self"] (LJ P w K a.bN):=by
 refine T.dS.ok ww λp A outer s H y Q E r h=>?_
 ·obtain⟨t,z,B,n,ow,tk,m,rfl,j,hn,q⟩:=h;refine⟨_,(ah (ax (wb ["self"] ["place"] [] [1] (aj i7) (ck 1) (c9 rfl T.eD (ac (aI K rfl (Y 0)) ae)) (λcl C s₀ H₀ ex=>⟨(nz ["self"] ["place"] 1),(t6 (qO (qR (cj r) (Y 1) (aI K rfl (Y 0))) rfl)),(Y 1)⟩)))),?_⟩
  obtain⟨dx,l⟩:=j.ins;refine U rfl ⟨t,_,dx,_,U rfl ⟨l,T.bv,T.nR,rfl,(n:Int),rfl,by exact j2 _,by lia,λD o=>?_⟩⟩;have g:∀b,ao H (az H D (.lst b)):=λb=>ai (ao.refl _) o;refine fC (K:=K) (lo:=0) (n:=(n:Int).toNat) (λi b H'=>b=(gq i ow).map V.int/\H'=az H D (.lst b)) ⟨rfl,rfl⟩ ?_ ?_
  ·rintro i b _ hi⟨rfl,rfl⟩;have u:((gq i ow).map V.int).length<=i:=by unfold gq;rw[c_,c_];exact mu (v_ _ _) (by rw[rl];exact f_ _)
   have c:gq (i+1) ow=gq i ow++if(aW ow (.inl (i:Int))).isNone=true then[(i:Int)]else[]:=by
    unfold gq;rw[QM,Q2,il]
    congr 1
    by_cases e:(aW ow (.inl (i:Int))).isNone=true
    ·simp[e]
    ·simp[e]
   rw[show(0:Int)+(i:Int)=((i:Nat):Int)by lia];refine aq (U rfl (U rfl ⟨t,_,dx,_,U rfl ⟨g _ _ _ l,T.bv,T.d7,rfl,rG _ (d0.k (k:=.inl (i:Int)) (g _ _ _ j.own)) (U rfl ?_)⟩⟩));have f:i<(n:Int).toNat:=hi;cases e:aW ow (.inl (i:Int))with|none=>refine bI (U rfl ⟨O,by rw[j1];lia,lf f ⟨?_,by rw[fZ]⟩⟩);rw[c,e,il];rfl|some v=>refine b0 (lf f ⟨?_,rfl⟩);rw[c,e,il];exact(rr _).symm
  ·rintro b _⟨rfl,rfl⟩;have e:(n:Int).toNat=n:=by exact rfl
   rw[e];exact q D _ (g _) o O
end
def HD(b:List V)(h:0<=i):w5 b (some i) none=b.drop i.toNat:=by
 show(b.drop (if i<0 then(i+(b.length:Int)).toNat else min i.toNat b.length)).take (b.length-(if i<0 then(i+(b.length:Int)).toNat else min i.toNat b.length))=b.drop i.toNat;rw[ir (by lia)];rcases Nat.le_total i.toNat b.length with c|c
 ·rw[Nat.min_eq_left c,ku (by rw[P6];exact f_ _)]
 ·rw[Nat.min_eq_right c,List.drop_eq_nil_of_le (f_ _),List.drop_eq_nil_of_le c,List.take_nil]
def CL(c:List V)(h:0<=i):w5 c none (some i)=c.take i.toNat:=by
 show(c.drop 0).take ((if i<0 then(i+(c.length:Int)).toNat else min i.toNat c.length)-0)=c.take i.toNat;rw[ir (by lia),List.drop_zero,Nat.sub_zero];rcases Nat.le_total i.toNat c.length with b|b
 ·rw[Nat.min_eq_left b]
 ·rw[Nat.min_eq_right b,ku (f_ _),ku b]
def DV(b:List (bL×V))(k j:bL):aW (dH b k) j=if j=k then none else aW b j:=by induction b with|nil=>split<;>rfl|cons p r f=>
  by_cases e:p.1=k
  ·rw[xM e,f]
   by_cases c:j=k
   ·rw[i_ c,i_ c]
   ·rw[ir c,ir c,bH (λz=>c (z.symm.trans e))]
  ·rw[xN e]
   by_cases d:p.1=j
   ·rw[cn d,ir (λz=>e (d.trans z)),cn d]
   ·rw[bH d,f,bH d]
def tW(ow:List (bL×V))(b:RN):List (bL×V):=b.foldl (λo p=>dH o (.inl p)) ow
def qD(b:RN):∀(ow:List (bL×V))(j:Int),aW (tW ow b) (.inl j)=if j∈b then none else aW ow (.inl j):=by induction b with|nil=>intro ow j;rw[ir (by simp)];rfl|cons p r c=>
  intro ow j;show aW (tW (dH ow (.inl p)) r) (.inl j)=_;rw[c,DV]
  by_cases h1:j∈r
  ·rw[i_ h1,i_ (kw _ h1)]
  ·rw[ir h1]
   by_cases h2:j=p
   ·rw[i_ (by rw[h2]),i_ (by rw[h2];exact l_)]
   ·rw[ir (λz=>h2 (Sum.inl.inj z)),ir (λz=>(pv.mp z).elim h2 h1)]
def mM(c d:Addr)(H H':Hp):Prop:=∀b o,H b=some o->b≠c->b≠d->H' b=some o
def mM.of(h:ao H H'):mM c d H H':=λb o e _ _=>h b o e
def mM.trans(a:mM d e H f)(b:mM d e f g):mM d e H g:=λc o h h1 h2=>b c o (a c o h h1 h2) h1 h2
def mM.tp(h:mM c d H H')(h1:H c=some (.dK f))(h2:H d=some (.ext φ))(e:H b=some (.tup g)):H' b=some (.tup g):=h b _ e (λz=>by rw[z,h1]at e;cases e) (λz=>by rw[z,h2]at e;cases e)
def d9(h:mM c d H H')(h1:H c=some (.dK f))(h2:H d=some (.ext φ))(b:c6 K H k v):c6 K H' k v:=by cases k with|inl k=>exact b|inr l=>obtain⟨a,g,i⟩:=b;have kp:Kp H H':=⟨λu m e=>h.tp h1 h2 e,λu o⟨j,e⟩=>⟨j,h u _ e (λz=>by rw[z,h1]at e;cases e) (λz=>by rw[z,h2]at e;cases e)⟩⟩;exact⟨a,g,kp.tq i⟩
def eX.off(h:mM b c H H')(h1:H b=some (.dK d))(h2:H c=some (.ext φ))(t:eX H tk m):eX H' tk m:=Paired.mapP t λ_ _ q=>⟨q.1,q.2.1,q.2.2.imp λ_ e=>⟨e.1,h _ _ e.2 (λz=>by rw[z,h1]at e;cases e.2) (λz=>by rw[z,h2]at e;cases e.2)⟩⟩
def eX.put(d:H l=some (.lst (f.map V.int))):∀{tk:List iX}{m:List Pl},eX H tk m->eX H (fW tk k kv (.ref l)) (fW m k kv f):=by
 intro tk m h;have b:(fk tk k).isSome=(fk m k).isSome:=by rcases h.val k with⟨l,f,g,i,_⟩|⟨g,i⟩<;>rw[g,i]<;>rfl
 unfold fW;rw[b]
 split
 ·rename_i hc;clear b hc
  induction h with|nil=>exact .nil|@cons x y j n r t c=>
   refine .cons ?_ c;dsimp only;rw[<-r.1]
   by_cases e:x.1=k
   ·rw[i_ e,i_ e];exact⟨rfl,r.2.1,l,rfl,d⟩
   ·rw[ir e,ir e];exact r
 ·rename_i hc;clear b hc
  induction h with|nil=>exact .cons ⟨rfl,rfl,l,rfl,d⟩ .nil|cons r t c=>exact .cons r c
def fe(H:Hp)(tk b:List iX):Prop:=∀x∈b,(∃y∈tk,y.2.2=x.2.2)\/∃l,x.2.2=.ref l/\H l=none
def fe.put(c:H l=none):fe H tk (fW tk k kv (.ref l)):=by
 intro x b;unfold fW at b
 split at b
 ·obtain⟨y,d,rfl⟩:=mo.mp b
  split
  ·exact .inr ⟨l,rfl,c⟩
  ·exact .inl ⟨y,d,rfl⟩
 ·rcases Rz.mp b with b|b
  ·exact .inl ⟨x,b,rfl⟩
  ·rw[List.mem_singleton.mp b];exact .inr ⟨l,rfl,c⟩
def pO(h:mM c d H H')(h1:H' c≠none)(h2:H' d≠none)(e:H' b=none):H b=none:=by cases z:H b with|none=>rfl|some o=>have:=h b o z (λq=>h1 (by rw[<-q];exact e)) (λq=>h2 (by rw[<-q];exact e));rw[e]at this;cases this
inductive LI(P:RH)(w:World)(K:RC)(C:Addr)(vs:List V)(H:Hp)(Q:VK)(_E:XK):Prop|mk(t od td:Addr)(n:Nat)(ow:List (bL×V))(tk:List iX)(m:List Pl)(k:ca)(kv:V)(num:Int)(_:vs=[.ref t,kv,.int num])(_:eF P w K C H t od td n ow tk m)(_:c6 K H k kv)(_:0<=num)(_:tk.length<100000)(_:(∀p∈(bj m k).drop num.toNat,(aW ow (.inl p)).isSome=true))(_:(bj m k).Nodup)(_:∀(l:Addr)(tk':List iX)H',mM od td H H'->H l=none->H' l=some (.lst (((bj m k).drop num.toNat).reverse.map V.int))->tk'.length<=tk.length+1->fe H tk tk'->eF P w K C H' t od td n (tW ow ((bj m k).drop num.toNat).reverse) tk' (fW m k kv ((bj m k).take num.toNat))->Q (.ref l) H')
def AR(c:List (ca×d×e))(k:ca)(b:d)(v:e):(fW c k b v).length<=c.length+1:=by
 unfold fW
 split
 ·rw[c_];exact rk _
 ·rw[iA];simp
def eA.put(h:eA K H tk)(d:c6 K H k kv):eA K H (fW tk k kv v):=by
 unfold fW
 split
 ·intro x b;obtain⟨y,c,rfl⟩:=mo.mp b
  split
  ·exact h y c
  ·exact h y c
 ·intro x b;rcases Rz.mp b with b|b
  ·exact h x b
  ·rw[List.mem_singleton.mp b];exact d
section
def oH(T:Txt K mg a):aP P w K mg base dI 2 a.cJ.x a.cJ.d ["self","owner","number"] (LI P w K a.bN):=by
 refine T.cJ.ok dN λb7 A outer s H vs Q E hr h=>?_
 ·obtain⟨t,M,u,n,ow,tk,m,k,kv,c,rfl,g,hk,N,b8,R,an,q⟩:=h;refine⟨_,(ag (bf 3 dN.nd (bw (Y 0) T.bv T.bq.m ((fw (P:=P) (w:=w) T).mono (by decide)) hr T.bq.b .nil bx (ac (Y 1) ae))) (ag (bf 4 dN.nd (BV K rfl rfl (by rfl) T.u7 (by rfl) T.B8 (gh (ux K rfl) (Y 3) (i9 (Y 2)) ja))) (ag (dw op rfl (cK K rfl (Y 4)) (pF 5 dN.nd) (ah (aN (Ar (aI K rfl (Y 0)) (Y 5) ⟨rfl,rfl,rfl,rfl⟩)))) (ag (iS (gh (ux K rfl) (Y 3) ja (i9 (Y 2))) (iU (aI K rfl (Y 0)) (Y 1) (F2 (P:=P) (w:=w) K rfl (cj hr)))) (ah (ax (Y 4))))))),?_⟩
  obtain⟨dx,hI⟩:=g.ins;refine pC hI rfl rfl (U rfl ⟨t,M,u,n,ow,tk,m,k,kv,rfl,g,hk,λlp H1 s1 b9 I=>aq ?_⟩);have cc:=g.same s1;generalize bj m k=C at R an q I⊢;refine U rfl (U rfl ⟨c,rfl,lp,U rfl ⟨aO.of I,λl2 ap=>?_⟩⟩);rw[HD _ N,<-List.map_drop];have s2:=ai (o:=.lst ((C.drop c.toNat).map V.int)) s1 ap;have S:az H1 l2 (.lst ((C.drop c.toNat).map V.int)) l2=some (.lst ((C.drop c.toNat).map V.int)):=O;have D:az H1 l2 (.lst ((C.drop c.toNat).map V.int)) lp=some (.lst (C.map V.int)):=by rw[am (aD I ap)];exact I
  generalize az H1 l2 (.lst ((C.drop c.toNat).map V.int))=H2 at s2 S D⊢;refine⟨l2,U rfl ⟨aO.of S,λW ad=>aq ?_⟩⟩;rw[<-List.map_reverse];generalize as:(C.drop c.toNat).reverse=bk at q⊢;have s3:=ai (o:=.lst (bk.map V.int)) s2 ad;have l:az H2 W (.lst (bk.map V.int)) W=some (.lst (bk.map V.int)):=O;have F:az H2 W (.lst (bk.map V.int)) lp=some (.lst (C.map V.int)):=by rw[am (aD D ad)];exact D
  generalize az H2 W (.lst (bk.map V.int))=H3 at s3 l F⊢;have r:=g.same s3;obtain⟨al,J⟩:=r.ins;have ba:H W=none:=s2.free ad;have bb:bk.Nodup:=by rw[<-as];exact(List.reverse_perm _).nodup_iff.mpr ((List.drop_sublist _ _).nodup an)
  have bc:∀p∈bk,(aW ow (.inl p)).isSome=true:=λp X=>R p (by rw[<-as]at X;exact P5.mp X);have ne:∀{b:Addr}{o:HO},H3 b=some o->(∀bd,o≠.dK bd)->(∀φ,o≠.ext φ)->b≠M/\b≠u:=λe h1 h2=>⟨λz=>by rw[z,r.own]at e;cases e;exact h1 _ rfl,λz=>by rw[z,r.tak]at e;cases e;exact h2 _ rfl⟩;have G:=ne l (λ_ z=>nomatch z) (λ_ z=>nomatch z);have a2:=ne F (λ_ z=>nomatch z) (λ_ z=>nomatch z);have nt:=ne J (λ_ z=>nomatch z) (λ_ z=>nomatch z);have a3:u≠M:=λz=>by have e:=r.tak;rw[z,r.own]at e;cases e
  refine U rfl ⟨W,rfl,⟨_,aO.of l⟩,?_⟩;refine jH (xs:=bk.map V.int) (λi σ H'=>mM M u H3 H'/\H' M=some (.dK (tW ow (bk.take i)))/\H' u=some (dM P w u tk)/\∃v5,σ=[some (.ref t),some kv,some (.int c),some (.ref lp),some (.ref W),v5]) ⟨.of (ao.refl _),r.own,r.tak,_,rfl⟩ (λi σ H' _ h=>aO.of (h.1 _ _ l G.1 G.2)) ?_ ?_
  ·rintro i x σ H4 Z⟨L,f,y,v5,rfl⟩;have hi:i<bk.length:=by simpa using(d_.mp Z).1
   have X:bk[i]?=some bk[i]:=hY hi;rw[ig,X]at Z;generalize bk[i]=p at Z X;cases Z;have bi:p∉bk.take i:=λz=>by
    obtain⟨j,hj⟩:=k_.mp z;have bt:j<i:=by have:=(d_.mp hj).1;rw[no]at this;lia
    rw[Qs bt]at hj;have:=(Px (d_.mp hj).1 bb).mp (hj.trans X.symm);lia
   obtain⟨v,hv⟩:=H_.mp (bc p (h_ X));have bu:aW (tW ow (bk.take i)) (.inl p)=some v:=by rw[qD,ir bi];exact hv
   have hg:tW ow (bk.take (i+1))=dH (tW ow (bk.take i)) (.inl p):=by unfold tW;rw[F_,X,Py];rfl
   refine aq (U rfl ⟨t,_,al,_,U rfl ⟨L _ _ J nt.1 nt.2,T.bv,T.d7,rfl,M,rfl,.inl ⟨_,.inl f⟩,U rfl ⟨_,.inl p,v,f,rfl,bu,?_⟩⟩⟩);refine⟨λb o e h1 h2=>by rw[am h1];exact L b o e h1 h2,by rw[hg];exact O,by rw[am a3];exact y,_,rfl⟩
  ·rintro σ H4⟨L,f,y,v5,rfl⟩;rw[c_,ku (f_ _)]at f;have a5:=L _ _ F a2.1 a2.2;refine U rfl (U rfl ⟨c,rfl,lp,U rfl ⟨aO.of a5,λl5 a6=>?_⟩⟩);rw[CL _ N,<-Q0];have s5:=ai (o:=.lst ((C.take c.toNat).map V.int)) (ao.refl H4) a6;have B:az H4 l5 (.lst ((C.take c.toNat).map V.int)) l5=some (.lst ((C.take c.toNat).map V.int)):=O;generalize az H4 l5 (.lst ((C.take c.toNat).map V.int))=H5 at s5 B⊢;have o5:mM M u H H5:=(mM.of s3).trans (L.trans (.of s5));have aa:=s5 _ _ y;have bz:=d9 o5 g.own g.tak hk;have a7:eA K H5 tk:=λx Z=>d9 o5 g.own g.tak (g.keys x Z);have n5:l5≠u:=λz=>by rw[z,aa]at B;cases B
   refine U rfl ⟨t,_,al,_,U rfl ⟨s5 _ _ (L _ _ J nt.1 nt.2),T.bv,T.gk,rfl,U rfl ⟨u,tk,k,rfl,aa,a7,bz,by rw[j1];lia,U rfl ?_⟩⟩⟩;have o6:mM M u H (az H5 u (dM P w u (fW tk k kv (.ref l5)))):=λb o e h1 h2=>by rw[am h2];exact o5 b o e h1 h2
   have bK:az H5 u (dM P w u (fW tk k kv (.ref l5))) l5=some (.lst ((C.take c.toNat).map V.int)):=by rw[am n5];exact B
   have a8:H l5=none:=pO ((mM.of s3).trans L) (by rw[f];simp) (by rw[y];simp) a6;refine q W _ _ o6 ba (by rw[am G.2];exact s5 _ _ (L _ _ l G.1 G.2)) (AR _ _ _ _) (fe.put a8) ⟨⟨al,by rw[am nt.2];exact s5 _ _ (L _ _ J nt.1 nt.2)⟩,by rw[am (o_ a3)];exact s5 _ _ f,O,?_,?_⟩
   ·exact eA.put (λx Z=>d9 o6 g.own g.tak (g.keys x Z)) (d9 o6 g.own g.tak hk)
   ·exact eX.put bK (g.lsts.off o6 g.own g.tak)
end
def mI(ow:List (bL×V))(kv:V)(b:RN):List (bL×V):=b.foldl (λo p=>c7 o (.inl p) kv) ow
def ui(kv:V)(b:RN):∀(ow:List (bL×V))(j:Int),aW (mI ow kv b) (.inl j)=if j∈b then some kv else aW ow (.inl j):=by induction b with|nil=>intro ow j;rw[ir (by simp)];rfl|cons p r c=>
  intro ow j;show aW (mI (c7 ow (.inl p) kv) kv r) (.inl j)=_;rw[c,jn]
  by_cases h1:j∈r
  ·rw[i_ h1,i_ (kw _ h1)]
  ·rw[ir h1]
   by_cases h2:j=p
   ·rw[i_ (by rw[h2]),i_ (by rw[h2];exact l_)]
   ·rw[ir (λz=>h2 (Sum.inl.inj z)),ir (λz=>(pv.mp z).elim h2 h1)]
def xG(kv:V)(b:RN):∀(ow:List (bL×V)),(mI ow kv b).length<=ow.length+b.length:=by induction b with|nil=>intro ow;exact f_ _|cons p r c=>intro ow;have h1:=c (c7 ow (.inl p) kv);have h2:=fK ow (.inl p) kv;show(mI (c7 ow (.inl p) kv) kv r).length<=_;rw[oi];lia
def CG(n:Nat)(ow:List (bL×V)):(gq n ow).length<=n:=by unfold gq;rw[c_];exact mu (v_ _ _) (by rw[rl];exact f_ _)
inductive Ly(P:RH)(w:World)(K:RC)(C:Addr)(vs:List V)(H:Hp)(Q:VK)(_E:XK):Prop|mk(t od td:Addr)(n:Nat)(ow:List (bL×V))(tk:List iX)(m:List Pl)(k:ca)(kv:V)(num:Int)(_:vs=[.ref t,kv,.int num])(_:eF P w K C H t od td n ow tk m)(_:c6 K H k kv)(_:n<=1000)(_:((bj m k).length:Int)<=num)(_:(bj m k).length<=1000000)(_:tk.length<100000)(_:ow.length<1000000)(_:∀(tk':List iX)H',mM od td H H'->tk'.length<=tk.length+1->fe H tk tk'->eF P w K C H' t od td n (mI ow kv ((gq n ow).take (num-(bj m k).length).toNat)) tk' (fW m k kv (bj m k++(gq n ow).take (num-(bj m k).length).toNat))->Q .non H')
section
def wF(T:Txt K mg a):aP P w K mg base dI 2 a.fG.x a.fG.d ["self","owner","number"] (Ly P w K a.bN):=by
 refine T.fG.ok ix λbu A outer s H vs Q E hr h=>?_
 ·obtain⟨t,D,l,n,ow,tk,m,k,kv,F,rfl,f,hk,hn,Z,a7,bz,bK,q⟩:=h;refine⟨_,(ag (bf 3 ix.nd (bw (Y 0) T.bv T.bq.m ((fw (P:=P) (w:=w) T).mono (by decide)) hr T.bq.b .nil bx (ac (Y 1) ae))) (ag (bf 4 ix.nd (gh (ux K rfl) (Ap (Y 0) T.bv T.dS.m ((nP (P:=P) (w:=w) T).mono (by decide)) hr T.dS.b .nil bx) ja (i9 (av fu (Y 2) (au (aG K rfl) (by rfl) T.bp L2.aH (ac (Y 3) ae)))))) (ag (dw op rfl (cK K rfl (Y 4)) (pF 5 ix.nd) (ah (iS (Y 1) (iU (aI K rfl (Y 0)) (Y 5) (lw (cj hr)))))) (ah (iS (av BY (Y 3) (Y 4)) (iU (aI K rfl (Y 0)) (Y 1) (F2 (P:=P) (w:=w) K rfl (cj hr)))))))),?_⟩
  obtain⟨dx,hI⟩:=f.ins;refine pC hI rfl rfl (U rfl ⟨t,D,l,n,ow,tk,m,k,kv,rfl,f,hk,λlp H1 s1 b7 aa=>aq ?_⟩);have a8:=f.same s1;generalize bj m k=C at Z a7 q aa⊢;refine pC (s1 _ _ hI) rfl rfl ⟨t,D,l,n,ow,tk,m,rfl,a8,hn,λba H2 s2 b8 ad=>?_⟩;have bb:=CG n ow;generalize gq n ow=fs at bb ad q;have y:=s2 _ _ aa;refine U rfl (U rfl ⟨_,C.length,rfl,.inl ⟨_,aO.of y,by rw[c_]⟩,F,(C.length:Int),rfl,rfl,F-(C.length:Int),rfl,ba,U rfl ⟨aO.of ad,λR al=>aq ?_⟩⟩);rw[CL _ (by omega),<-Q0];generalize bc:fs.take (F-(C.length:Int)).toNat=c at q⊢;have b9:c.length<=1000:=by rw[<-bc,no];omega
  have s3:=ai (o:=.lst (c.map V.int)) (s1.trans s2) al;have g:az H2 R (.lst (c.map V.int)) R=some (.lst (c.map V.int)):=O;have B:az H2 R (.lst (c.map V.int)) lp=some (.lst (C.map V.int)):=by rw[am (aD y al)];exact y
  generalize az H2 R (.lst (c.map V.int))=H3 at s3 g B⊢;have r:=f.same s3;obtain⟨S,G⟩:=r.ins;have ne:∀{b:Addr}{o:HO},H3 b=some o->(∀bd,o≠.dK bd)->(∀φ,o≠.ext φ)->b≠D/\b≠l:=λe h1 h2=>⟨λz=>by rw[z,r.own]at e;cases e;exact h1 _ rfl,λz=>by rw[z,r.tak]at e;cases e;exact h2 _ rfl⟩;have I:=ne g (λ_ z=>nomatch z) (λ_ z=>nomatch z);have an:=ne B (λ_ z=>nomatch z) (λ_ z=>nomatch z);have W:=ne G (λ_ z=>nomatch z) (λ_ z=>nomatch z);have ap:l≠D:=λz=>by have e:=r.tak;rw[z,r.own]at e;cases e
  refine U rfl ⟨R,rfl,⟨_,aO.of g⟩,?_⟩;refine jH (xs:=c.map V.int) (λi σ H'=>mM D l H3 H'/\H' D=some (.dK (mI ow kv (c.take i)))/\H' l=some (dM P w l tk)/\∃v5,σ=[some (.ref t),some kv,some (.int F),some (.ref lp),some (.ref R),v5]) ⟨.of (ao.refl _),r.own,r.tak,_,rfl⟩ (λi σ H' _ h=>aO.of (h.1 _ _ g I.1 I.2)) ?_ ?_
  ·rintro i x σ H4 L⟨J,j,u,v5,rfl⟩;have hi:i<c.length:=by simpa using(d_.mp L).1
   have hp:c[i]?=some c[i]:=hY hi;rw[ig,hp]at L;generalize c[i]=p at L hp;cases L;have hg:mI ow kv (c.take (i+1))=c7 (mI ow kv (c.take i)) (.inl p) kv:=by unfold mI;rw[F_,hp,Py];rfl
   have cc:=xG kv (c.take i) ow;have ci:=PP i c;refine aq (U rfl (U rfl ⟨t,_,S,_,U rfl ⟨J _ _ G W.1 W.2,T.bv,T.d7,rfl,U rfl ⟨D,_,.inl p,rfl,rfl,j,by rw[j1];omega,?_⟩⟩⟩));refine⟨λb o e h1 h2=>by rw[am h1];exact J b o e h1 h2,by rw[hg];exact O,by rw[am ap];exact u,_,rfl⟩
  ·rintro σ H4⟨J,j,u,v5,rfl⟩;rw[c_,ku (f_ _)]at j;have as:=J _ _ B an.1 an.2;have a2:=J _ _ g I.1 I.2;refine U rfl (U rfl ⟨lp,R,_,U rfl ⟨rfl,as,a2,by rw[c_,c_,j1];lia,λM a3=>?_⟩⟩);rw[<-il];have X:=ai (o:=.lst ((C++c).map V.int)) (ao.refl H4) a3;have v:az H4 M (.lst ((C++c).map V.int)) M=some (.lst ((C++c).map V.int)):=O;generalize az H4 M (.lst ((C++c).map V.int))=H5 at X v⊢;have o5:mM D l H H5:=(mM.of s3).trans (J.trans (.of X));have N:=X _ _ u;have bi:=d9 o5 f.own f.tak hk;have a5:eA K H5 tk:=λx L=>d9 o5 f.own f.tak (f.keys x L);have n5:M≠l:=λz=>by rw[z,N]at v;cases v
   refine U rfl ⟨t,_,S,_,U rfl ⟨X _ _ (J _ _ G W.1 W.2),T.bv,T.gk,rfl,U rfl ⟨l,tk,k,rfl,N,a5,bi,by rw[j1];omega,?_⟩⟩⟩;have o6:mM D l H (az H5 l (dM P w l (fW tk k kv (.ref M)))):=λb o e h1 h2=>by rw[am h2];exact o5 b o e h1 h2
   have bt:az H5 l (dM P w l (fW tk k kv (.ref M))) M=some (.lst ((C++c).map V.int)):=by rw[am n5];exact v
   have a6:H M=none:=pO ((mM.of s3).trans J) (by rw[j];simp) (by rw[u];simp) a3;refine q _ _ o6 (AR _ _ _ _) (fe.put a6) ⟨⟨S,by rw[am W.2];exact X _ _ (J _ _ G W.1 W.2)⟩,by rw[am (o_ ap)];exact X _ _ j,O,?_,?_⟩
   ·exact eA.put (λx L=>d9 o6 f.own f.tak (f.keys x L)) (d9 o6 f.own f.tak hk)
   ·exact eX.put bt (f.lsts.off o6 f.own f.tak)
end
structure AS where
 pl:ca->List Int
 oc:Int->Bool
def pW(n:Nat)(oc:Int->Bool):List Int:=((List.range n).filter λ(i:Nat)=>!oc (i:Int)).map λ(i:Nat)=>(i:Int)
def AS.give(s:AS)(k:ca)(c:Nat):AS:=⟨λj=>if j=k then(s.pl k).take c else s.pl j,λp=>if p∈(s.pl k).drop c then false else s.oc p⟩
def AS.took(s:AS)(n:Nat)(k:ca)(c:Nat):AS:=⟨λj=>if j=k then s.pl k++(pW n s.oc).take (c-(s.pl k).length)else s.pl j,λp=>if p∈(pW n s.oc).take (c-(s.pl k).length)then true else s.oc p⟩
structure AS.Ok(n:Nat)(s:AS):Prop where
 in_:∀k p,p∈s.pl k->0<=p/\p<n/\s.oc p=true
 dj:∀k j p,p∈s.pl k->p∈s.pl j->k=j
 nd:∀k,(s.pl k).Nodup
def AS.new:AS:=⟨λ_=>[],λ_=>false⟩
def AS.new_ok(n:Nat):AS.new.Ok n:=⟨λ_ _ h=>(nomatch h),λ_ _ _ h=>(nomatch h),λ_=>Qk⟩
def Kd:p∈pW n oc↔0<=p/\p<n/\oc p=false:=by
 unfold pW;rw[mo]
 constructor
 ·rintro⟨i,hi,rfl⟩;obtain⟨h1,h2⟩:=vr.mp hi;have:=to.mp h1;exact⟨by exact j2 _,by exact Int.ofNat_lt.mpr this,by simpa using h2⟩
 ·rintro⟨h1,h2,h3⟩;refine⟨p.toNat,vr.mpr ⟨to.mpr (by lia),?_⟩,by exact Qi h1⟩;rw[show((p.toNat:Nat):Int)=p by exact Qi h1,h3];rfl
def MA(n:Nat)(oc:Int->Bool):(pW n oc).Nodup:=by unfold pW;rw[PD,List.pairwise_map];exact(PD.mp (List.filter_sublist.nodup List.nodup_range)).imp λh=>by lia
def MB(n:Nat)(oc:Int->Bool):(pW n oc).length<=n:=by unfold pW;rw[c_];exact mu (v_ _ _) (by rw[rl];exact f_ _)
theorem AS.Ok.give{n:Nat}{s:AS}(h:s.Ok n)(k:ca)(c:Nat):(s.give k c).Ok n:=by
 have f:∀p,p∈(s.pl k).take c->p∉(s.pl k).drop c:=λp h1 h2=>by have:=h.nd k;rw[<-ta c (s.pl k),qx]at this;exact this.2.2 p h1 p h2 rfl
 have sub:∀j p,p∈(s.give k c).pl j->p∈s.pl j:=λj p d=>by
  have d:p∈(if j=k then(s.pl k).take c else s.pl j):=d
  split at d
  ·rename_i e;rw[e];exact P_ d
  ·exact d
 refine⟨λj p d=>?_,λj i p h1 h2=>h.dj j i p (sub j p h1) (sub i p h2),λj=>?_⟩
 ·obtain⟨a,b,e⟩:=h.in_ j p (sub j p d);refine⟨a,b,?_⟩;show(if p∈(s.pl k).drop c then false else s.oc p)=true;rw[ir,e];intro z;have d:p∈(if j=k then(s.pl k).take c else s.pl j):=d
  split at d
  ·exact f p d z
  ·rename_i g;exact g (h.dj j k p d (List.mem_of_mem_drop z))
 ·show(if j=k then(s.pl k).take c else s.pl j).Nodup
  split
  ·exact(P3 _ _).nodup (h.nd k)
  ·exact h.nd j
theorem AS.Ok.took{n:Nat}{s:AS}(h:s.Ok n)(k:ca)(c:Nat):(s.took n k c).Ok n:=by
 have fr:∀p∈(pW n s.oc).take (c-(s.pl k).length),0<=p/\p<n/\s.oc p=false:=λp f=>Kd.mp (P_ f);have g:((pW n s.oc).take (c-(s.pl k).length)).Nodup:=(P3 _ _).nodup (MA _ _);unfold AS.took;generalize(pW n s.oc).take (c-(s.pl k).length)=l at fr g;have d:∀j p,p∈(if j=k then s.pl k++l else s.pl j)->p∈s.pl j\/(j=k/\p∈l):=λj p f=>by
  split at f
  ·rename_i e;rcases Rz.mp f with z|z
   ·rw[e];exact .inl z
   ·exact .inr ⟨e,z⟩
  ·exact .inl f
 refine⟨λj p f=>?_,λj i p h1 h2=>?_,λj=>?_⟩
 ·show 0<=p/\p<n/\(if p∈l then true else s.oc p)=true;rcases d j p f with z|⟨_,z⟩
  ·obtain⟨a,b,e⟩:=h.in_ j p z;refine⟨a,b,?_⟩
   split
   ·rfl
   ·exact e
  ·exact⟨(fr p z).1,(fr p z).2.1,by rw[i_ z]⟩
 ·rcases d j p h1 with z|⟨m,z⟩<;>rcases d i p h2 with y|⟨o,y⟩
  ·exact h.dj j i p z y
  ·have:=(h.in_ j p z).2.2;rw[(fr p y).2.2]at this;cases this
  ·have:=(h.in_ i p y).2.2;rw[(fr p z).2.2]at this;cases this
  ·rw[m,o]
 ·show(if j=k then s.pl k++l else s.pl j).Nodup
  split
  ·rw[qx];refine⟨h.nd k,g,λa q b r z=>?_⟩;subst z;have h1:=(h.in_ k a q).2.2;rw[(fr a r).2.2]at h1;cases h1
  ·exact h.nd j
abbrev Wl:=List (ca×Int)
def cH(s:AS)(W:Wl):AS:=W.foldl (λs x=>s.give x.1 x.2.toNat) s
def dB:AS->Wl->List Int|_,[]=>[]|s,x::r=>((s.pl x.1).drop x.2.toNat).reverse++dB (s.give x.1 x.2.toNat) r
def de(n:Nat)(s:AS)(W:Wl):AS:=W.foldl (λs x=>s.took n x.1 x.2.toNat) s
def j9(s:AS)(W:Wl):Int:=(W.map λx=>x.2-((s.pl x.1).length:Int)).sum
def zd(s:AS)(W:Wl)(x:ca×Int):cH s (W++[x])=(cH s W).give x.1 x.2.toNat:=by unfold cH;rw[Py];rfl
theorem qb:∀(W:Wl)(s:AS)(x:ca×Int),dB s (W++[x])=dB s W++(((cH s W).pl x.1).drop x.2.toNat).reverse|[],s,x=>by show _++[]=[]++_;rw[rr,List.nil_append];rfl|y::r,s,x=>by show _++dB _ (r++[x])=(_++dB _ r)++_;rw[qb r,G_];rfl
def yi(n:Nat)(s:AS)(W:Wl)(x:ca×Int):de n s (W++[x])=(de n s W).took n x.1 x.2.toNat:=by unfold de;rw[Py];rfl
theorem jG{n:Nat}:∀(W:Wl){s:AS},s.Ok n->(cH s W).Ok n|[],_,h=>h|x::r,_,h=>jG r (h.give x.1 x.2.toNat)
theorem lq{n:Nat}:∀(W:Wl){s:AS},s.Ok n->(de n s W).Ok n|[],_,h=>h|x::r,_,h=>lq r (h.took x.1 x.2.toNat)
def B7(s:AS)(x:ca×Int)(W:Wl):j9 s (x::W)=(x.2-((s.pl x.1).length:Int))+j9 s W:=by unfold j9;rw[np,List.sum_cons]
def yG{n:Nat}{b:RN}(h:b.Nodup)(c:∀p∈b,0<=p/\p<n):b.length<=n:=by
 have:=Dk (l:=b) (m:=(List.range n).map λ(i:Nat)=>(i:Int)) h λp d=>by obtain⟨h1,h2⟩:=c p d;exact mo.mpr ⟨p.toNat,to.mpr (by lia),by exact Qi h1⟩
 rw[c_,rl]at this;exact this
def MS(K:RC)(H:Hp)(c:List V)(W:Wl):Prop:=Paired (λ(v:V)(x:ca×Int)=>∃b kv,v=.ref b/\aT K H b [kv,.int x.2]/\c6 K H x.1 kv) c W
def MS.get(h:MS K H c W)(i:Nat)(v:V)(e:c[i]?=some v):∃x,W[i]?=some x/\∃b kv,v=.ref b/\aT K H b [kv,.int x.2]/\c6 K H x.1 kv:=Paired.at_ h i v e
def Gr(h:mM d f H H')(h1:H d=some (.dK g))(h2:H f=some (.ext φ))(e:aT K H b c):aT K H' b c:=by have kp:Kp H H':=⟨λu c e=>h.tp h1 h2 e,λu o⟨i,e⟩=>⟨i,h u _ e (λz=>by rw[z,h1]at e;cases e) (λz=>by rw[z,h2]at e;cases e)⟩⟩;exact kp.tq e
def eF.list(h:eF P w K C H t j o n ow tk m)(d:H c=some (.lst bs))(f:∀x∈tk,x.2.2≠.ref c):eF P w K C (az H c (.lst cs)) t j o n ow tk m:=by
 obtain⟨dx,g⟩:=h.ins;have kp:Kp H (az H c (.lst cs)):=.lst d;refine⟨⟨dx,by rw[am (λz=>by rw[z,d]at g;cases g)];exact g⟩,by rw[am (λz=>by have e:=h.own;rw[z,d]at e;cases e)];exact h.own,by rw[am (λz=>by have e:=h.tak;rw[z,d]at e;cases e)];exact h.tak,λx p=>?_,?_⟩
 ·have:=h.keys x p;cases e:x.1 with|inl k=>rw[e]at this;exact this|inr B=>rw[e]at this;obtain⟨b,h1,h2⟩:=this;exact⟨b,h1,kp.tq h2⟩
 ·have go:∀{tk:List iX}{m:List Pl},eX H tk m->(∀x∈tk,x.2.2≠.ref c)->eX (az H c (.lst cs)) tk m:=by
   intro tk m h f
   induction h with|nil=>exact .nil|@cons x y D E r t q=>obtain⟨s,u,l,i,v⟩:=r;refine .cons ⟨s,u,l,i,?_⟩ (q λz A=>f z (kw _ A));rw[am (λz=>f x l_ (by rw[i,z]))];exact v
  exact go h.lsts f
theorem eX.at_(h:eX H tk m)(i:Nat)(x:iX)(e:tk[i]?=some x):∃y:Pl,m[i]?=some y/\∃l,x.2.2=.ref l/\H l=some (.lst (y.2.2.map V.int)):=(Paired.at_ h i x e).imp λ_ q=>⟨q.1,q.2.2.2⟩
def Hf(b:RN):∀(ow:List (bL×V)),(tW ow b).length<=ow.length:=by induction b with|nil=>intro ow;exact f_ _|cons p r c=>intro ow;exact mu (c _) (Ba ow (.inl p))
def GR(f:List (ca×g×h))(k j:ca)(b:g)(v:h):fk (fW f k b v) j=if j=k then some v else fk f j:=by
 have d:∀c:List (ca×g×h),fk (c.map λy=>if y.1=k then(y.1,y.2.1,v)else y) j=(fk c j).map λx=>if j=k then v else x:=by
  intro c
  induction c with|nil=>rfl|cons z r m=>
   unfold fk at m⊢;rw[np,so,so];have i:(if z.1=k then(z.1,z.2.1,v)else z).1=z.1:=by split<;>rfl
   rw[i]
   by_cases e:z.1=j
   ·rw[m3 e];show some (if z.1=k then(z.1,z.2.1,v)else z).2.2=some (if j=k then v else z.2.2);rw[e]
    split<;>rfl
   ·rw[nk e];exact m
 have l:∀c:List (ca×g×h),fk c k=none->fk (c++[(k,b,v)]) j=if j=k then some v else fk c j:=by
  intro c i;unfold fk at i⊢;rw[List.find?_append]
  by_cases e:j=k
  ·subst e;rw[i_ rfl,Option.map_eq_none_iff.mp i];simp
  ·rw[ir e];have:List.find? (λy:ca×g×h=>decide (y.1=j)) [(k,b,v)]=none:=by simp[o_ e]
   rw[this,Option.or_none]
 unfold fW
 by_cases hc:(fk f k).isSome=true
 ·rw[i_ hc,d]
  by_cases e:j=k
  ·subst e;obtain⟨x,n⟩:=H_.mp hc;rw[n,i_ rfl];simp
  ·rw[ir e];simp[e]
 ·rw[ir hc];exact l f (by simpa using hc)
def jU(n:Nat)(s:AS)(ow:List (bL×V))(m:List Pl):Prop:=(∀k,bj m k=s.pl k)/\∀p:Int,0<=p->p<n->(aW ow (.inl p)).isSome=s.oc p
def jb(m:List Pl)(k j:ca)(kv:V)(b:RN):bj (fW m k kv b) j=if j=k then b else bj m j:=by
 unfold bj;rw[GR]
 split<;>rfl
def jU.free(h:jU n s ow m):gq n ow=pW n s.oc:=by
 unfold gq pW
 congr 1
 refine List.filter_congr λi hi=>?_;have:=to.mp hi;rw[<-h.2 i (by exact j2 _) (by exact Int.ofNat_lt.mpr this)];cases aW ow (.inl (i:Int))<;>rfl
theorem jU.give(h:jU n s ow m)(k:ca)(kv:V)(c:Nat):jU n (s.give k c) (tW ow ((s.pl k).drop c).reverse) (fW m k kv ((s.pl k).take c)):=by
 refine⟨λj=>?_,λp p0 p1=>?_⟩
 ·rw[jb,h.1];rfl
 ·rw[qD];show _=if p∈(s.pl k).drop c then false else s.oc p
  by_cases b:p∈(s.pl k).drop c
  ·rw[i_ b,i_ (P5.mpr b)];rfl
  ·rw[ir b,ir (λz=>b (P5.mp z))];exact h.2 p p0 p1
theorem jU.took(h:jU n s ow m)(k:ca)(kv:V)(c:Nat):jU n (s.took n k c) (mI ow kv ((pW n s.oc).take (c-(s.pl k).length))) (fW m k kv (s.pl k++(pW n s.oc).take (c-(s.pl k).length))):=by
 refine⟨λj=>?_,λp p0 p1=>?_⟩
 ·rw[jb,h.1];rfl
 ·rw[ui];show _=if p∈(pW n s.oc).take (c-(s.pl k).length)then true else s.oc p
  split
  ·rfl
  ·exact h.2 p p0 p1
def fe.refl(H:Hp)(tk:List iX):fe H tk tk:=λx b=>.inl ⟨x,b,rfl⟩
theorem fe.trans(a:fe H tk c)(b:fe i c d)(h:∀l,i l=none->H l=none):fe H tk d:=λx j=>by
 rcases b x j with⟨y,k,e⟩|⟨l,e,f⟩
 ·rcases a y k with⟨z,m,g⟩|⟨l,g,f⟩
  ·exact .inl ⟨z,m,g.trans e⟩
  ·exact .inr ⟨l,e▸g,f⟩
 ·exact .inr ⟨l,e,h l f⟩
def cu{b:Type}{l:List b}{i:Nat}{x:b}(h:l[i]?=some x):l.take (i+1)=l.take i++[x]:=by rw[F_,h];rfl
theorem sV{n:Nat}:∀(W:Wl){s:AS},s.Ok n->(dB s W).length<=n*W.length|[],_,_=>m_ _|x::r,s,h=>by show(_++dB _ r).length<=n*(r.length+1);have c:=sV r (h.give x.1 x.2.toNat);have h1:=yG (h.nd x.1) λp b=>⟨(h.in_ x.1 p b).1,(h.in_ x.1 p b).2.1⟩;rw[iA,Qh,P6,Nat.mul_add,Nat.mul_one];lia
def nj{K:RC}{a:Addr}{xs:List V}{g:TG}{tb:TS}{D:oW}{b:St}{H:Hp}(Pv:Nat->St->Hp->Prop)(h0:Pv 0 b H)(d:∀i b H,i<=xs.length->Pv i b H->aO K H a xs)(f:∀i x b H,xs[i]?=some x->Pv i b H->∀(N:St->Hp->Prop)(R:VK)(B:St->Hp->Prop),(∀b H,Pv (i+1) b H->N b H)->g x b H λc h=>tb ⟨N,R,B,N⟩ c h)(hd:∀b H,Pv xs.length b H->D.nx b H):=jH (K:=K) (a:=a) (g:=g) (tb:=tb) (D:=D) Pv h0 d (λi x b H e p=>f i x b H e p _ D.rt _ λ_ _ q=>q) hd
def wc(R:ca->V->Prop)(n:Nat)(s:AS)(ow:List (bL×V)):Prop:=∀(p:Int)(v:V),0<=p->p<n->aW ow (.inl p)=some v->∃k,p∈s.pl k/\R k v
theorem wc.give(h:wc R n s ow)(k:ca)(c:Nat):wc R n (s.give k c) (tW ow ((s.pl k).drop c).reverse):=by
 intro p v p0 p1 e;rw[qD]at e
 split at e
 ·cases e
 ·rename_i d;obtain⟨j,b,r⟩:=h p v p0 p1 e;refine⟨j,?_,r⟩;show p∈if j=k then(s.pl k).take c else s.pl j
  split
  ·rename_i f;rw[f,<-ta c (s.pl k),Rz]at b;exact b.resolve_right λz=>d (P5.mpr z)
  ·exact b
theorem wc.took(h:wc R n s ow)(k:ca)(d:R k kv)(c:Nat):wc R n (s.took n k c) (mI ow kv ((pW n s.oc).take (c-(s.pl k).length))):=by
 intro p v p0 p1 e;rw[ui]at e
 split at e
 ·rename_i f;cases e;refine⟨k,?_,d⟩;show p∈if k=k then s.pl k++(pW n s.oc).take (c-(s.pl k).length)else s.pl k
  rw[i_ rfl];exact pa _ f
 ·obtain⟨j,b,r⟩:=h p v p0 p1 e;refine⟨j,?_,r⟩;show p∈if j=k then s.pl k++(pW n s.oc).take (c-(s.pl k).length)else s.pl j
  split
  ·rename_i g;rw[g]at b;exact tA _ b
  ·exact b
def wc.mono(h:wc R n s ow)(f:∀k v,R k v->b k v):wc b n s ow:=λp v p0 p1 e=>let⟨k,h1,h2⟩:=h p v p0 p1 e;⟨k,h1,f k v h2⟩
inductive FC(P:RH)(w:World)(K:RC)(C N:Addr)(vs:List V)(H:Hp)(Q:VK)(E:XK):Prop|mk(t od td wl:Addr)(n:Nat)(ow:List (bL×V))(tk:List iX)(m:List Pl)(S:AS)(W:Wl)(ts:List V)(_:vs=[.ref t,.ref wl])(_:eF P w K C H t od td n ow tk m)(_:jU n S ow m)(_:wc (c6 K H) n S ow)(_:S.Ok n)(_:H wl=some (.lst ts))(_:MS K H ts W)(_:(∀x∈W,0<=x.2))(_:(W.map (·.1)).Nodup)(_:W.length<=5)(_:n<=1000)(_:tk.length<=5000)(_:ow.length<=500000)(_:(j9 S W<=((pW n S.oc).length:Int)->∀(l:Addr)(ow':List (bL×V))(tk':List iX)(m':List Pl)H',mM od td H H'->eF P w K C H' t od td n ow' tk' m'->jU n (de n (cH S W) W) ow' m'->wc (c6 K H) n (de n (cH S W) W) ow'->H l=none->H' l=some (.lst ((dB S W).map V.int))->fe H tk tk'->(∀x∈tk',x.2.2≠.ref l)->tk'.length<=tk.length+10->ow'.length<=ow.length+5000->Q (.ref l) H'))(_:(((pW n S.oc).length:Int)<j9 S W->∀H',ao H H'->E (.ref N) none H'))
section
def nO(T:Txt K mg a):aP P w K mg base (yd P w) 3 a.dR.x a.dR.d ["self","wanted"] (FC P w K a.bN a.mO):=by
 refine T.dR.okE du λes A outer s H vs Q E hr h=>?_
 ·obtain⟨t,od,td,wl,n,ow,tk,m,S,W,ts,rfl,hT,hS,hR,hO,ci,hW,c3,eh,eu,hn,ev,ew,q,qe⟩:=h;refine⟨_,(ag (bf 2 du.nd (au (E3 K rfl rfl) (by rfl) T.N9 L2.HQ (ac (wb je [] [4,5] [4,5] (aj i6) (zc _ 4 5) (cK K rfl (Y 1)) (λcl C s₀ H₀ ex=>⟨(gf K rfl rfl (bo (nz je [] 4) (bo (nz je [] 5) gc))),bY,(av fu (Y 5) (au (aG K rfl) (by rfl) T.bp L2.aH (ac (bw (Y 0) T.bv T.bq.m ((fw (P:=P) (w:=w) T).mono (by decide)) hr T.bq.b .nil bx (ac (Y 4) ae)) ae)))⟩)) ae))) (ag (aJ (aC sE (Y 2) (au (aG K rfl) (by rfl) T.bp L2.aH (ac (Ap (Y 0) T.bv T.dS.m ((nP (P:=P) (w:=w) T).mono (by decide)) hr T.dS.b .nil bx) ae)) (aE _)) (ah (An T.xJ rfl T.AO rfl Al (ac aB ae))) aA) (ag (bf 3 du.nd (bg ae)) (ag (PS.nox (dw op rfl (cK K rfl (Y 1)) (gf K rfl rfl (bo (pF 4 du.nd) (bo (pF 5 du.nd) gc))) (ah (aN (gK K rfl PySem.F.plainAttrs_list PySem.F.slot_list_extend PySem.F.type_list_extend xy (Y 3) (ac (bw (Y 0) T.bv T.cJ.m ((oH (P:=P) (w:=w) T).mono (by decide)) hr T.cJ.b .nil bx (ac (Y 4) (ac (Y 5) ae))) ae)))))) (ag (PS.nox (dw op rfl (cK K rfl (Y 1)) (gf K rfl rfl (bo (pF 4 du.nd) (bo (pF 5 du.nd) gc))) (ah (aN (bw (Y 0) T.bv T.fG.m ((wF (P:=P) (w:=w) T).mono (by decide)) hr T.fG.b .nil bx (ac (Y 4) (ac (Y 5) ae))))))) (ah (ax (Y 3)))))))),?_⟩
  obtain⟨dx,hI⟩:=hT.ins;have c4:ts.length=W.length:=Paired.length hW;refine U rfl ⟨wl,rfl,⟨_,aO.of ci⟩,λD hD=>?_⟩;refine jg (K:=K) (a:=wl) (xs:=ts) (λi a6 H'=>ao H H'/\H' D=some (.lst a6)/\a6=((W.take i).map λx=>x.2-((S.pl x.1).length:Int)).map V.int) ⟨ai (ao.refl _) hD,O,rfl⟩ (λi a6 H' _ h=>aO.of (h.1 _ _ ci)) ?_ ?_
  ·rintro i v a6 H1 hv⟨s1,bi,rfl⟩;have hi:i<ts.length:=(d_.mp hv).1;obtain⟨x,hx,b,kv,rfl,hb,hk⟩:=hW.get i v hv;refine⟨b,U rfl ⟨ao.tseq s1 hb,rfl,_,U rfl (aq ⟨_,U rfl (aq ⟨rfl,jm (bI ?_)⟩)⟩)⟩⟩;refine U rfl (pC (s1 _ _ hI) rfl rfl (U rfl ⟨t,od,td,n,ow,tk,m,x.1,kv,rfl,hT.same s1,oK s1 hk,λlp H2 s2 ey ei=>?_⟩));refine⟨_,U rfl ⟨.inl ⟨_,aO.of ei,rfl⟩,_,U rfl ⟨rfl,s2 _ _ bi,by rw[c_,c_,no,j1];omega,lf hi ⟨a0 (s1.trans s2) hD,O,?_⟩⟩⟩⟩;rw[cu hx,il,il,hS.1,c_];rfl
  ·rintro a6 H1⟨s1,bi,rfl⟩;rw[ku (by exact PL c4.symm)]at bi;refine⟨D,U rfl ⟨.inl (aO.of bi),aq ?_⟩⟩;have ej:=hT.same s1;refine U rfl (pC (s1 _ _ hI) rfl rfl ⟨t,od,td,n,ow,tk,m,rfl,ej,hn,λez H2 s2 eG da=>?_⟩);rw[hS.free]at da;refine⟨_,U rfl ⟨.inl ⟨_,aO.of da,rfl⟩,_,U rfl ⟨rfl,U rfl ?_⟩⟩⟩;have X:=s1.trans s2;rw[c_];refine y9 (λe=>⟨ls rfl,qe (lh e) H2 X⟩) (λe=>Fl ⟨ls rfl,λZ ap=>aq ?_⟩);have q:=q (Int.not_lt.mp (of_decide_eq_false e));clear e qe;have as:=hT.same X;have s3:=ai (o:=.lst []) (ao.refl H2) ap;have bK:az H2 Z (.lst []) Z=some (.lst []):=O;have dc:H Z=none:=X.free ap;generalize az H2 Z (.lst [])=H3 at s3 bK⊢;have r:=X _ _ ci;refine U rfl ⟨wl,rfl,⟨_,aO.of (s3 _ _ r)⟩,?_⟩;have a7:Z≠od:=λz=>by have e:=as.own;rw[<-z,ap]at e;cases e
   have a8:Z≠td:=λz=>by have e:=as.tak;rw[<-z,ap]at e;cases e
   have di:wl≠od:=λz=>by have e:=as.own;rw[<-z,r]at e;cases e
   have dt:wl≠td:=λz=>by have e:=as.tak;rw[<-z,r]at e;cases e
   have a2:wl≠od/\wl≠td:=⟨di,dt⟩;have dv:∀x∈tk,x.2.2≠.ref Z:=λx hx z=>by obtain⟨i,hi⟩:=k_.mp hx;obtain⟨y,_,l,e3,e4⟩:=eX.at_ as.lsts i x hi;rw[e3]at z;cases z;rw[ap]at e4;cases e4
   have dK:fe H2 tk tk:=fe.refl _ _;have fresh:∀H',mM od td H2 H'->H' od≠none->H' td≠none->∀l,H' l=none->H2 l=none:=λH' o h1 h2 l hl=>pO o h1 h2 hl;refine nj (xs:=ts) (λi σ H'=>OH λg J m'=>OJ (mM od td H2 H') (eF P w K a.bN H' t od td n g J m') ((jU n (cH S (W.take i)) g m'/\wc (c6 K H) n (cH S (W.take i)) g)) (fe H2 tk J) (J.length<=tk.length+i) (g.length<=ow.length) ((∀x∈J,x.2.2≠.ref Z)) (H' Z=some (.lst ((dB S (W.take i)).map V.int))) ((∀j x,j<i->W[j]?=some x->((bj m' x.1).length:Int)<=x.2)) (OH λv2 v4 v5=>σ=[some (.ref t),some (.ref wl),v2,some (.ref Z),v4,v5])) ⟨ow,tk,m,.of s3,as.same s3,⟨hS,hR⟩,dK,f_ _,f_ _,dv,bK,λj x hj=>absurd hj (QK _),_,_,_,rfl⟩ (λi σ H' _ h=>by obtain⟨_,_,_,o,_⟩:=h;exact aO.of (o _ _ r a2.1 a2.2)) ?_ ?_
   ·rintro i v σ H4 hv⟨g,J,m',o4,a3,⟨a5,bt⟩,ba,dT,dV,bb,u,al,v2,v4,v5,rfl⟩N R B hN;have hi:i<ts.length:=(d_.mp hv).1;obtain⟨x,hx,b,kv,rfl,hb,hk⟩:=hW.get i v hv;have d1:=c3 x (h_ hx);obtain⟨eH,ek⟩:=a3.ins;have d2:mM od td H H4:=(mM.of X).trans o4;have ad:=jG (W.take i) hO;have bu:=cu hx;have k:=a5.1 x.1;have d3:(bj m' x.1).length<=n:=by rw[k];exact yG (ad.nd x.1) λp hp=>⟨(ad.in_ x.1 p hp).1,(ad.in_ x.1 p hp).2.1⟩
    have eN:=sV (W.take i) hO;have ep:n*(W.take i).length<=1000*5:=Nat.mul_le_mul hn (by rw[no];lia);refine⟨b,U rfl ⟨Gr d2 hT.own hT.tak hb,rfl,_,U rfl (aq ⟨_,U rfl (aq ⟨rfl,?_⟩)⟩)⟩⟩;refine U rfl ⟨.inl ⟨rfl,_,aO.of u⟩,pC ek rfl rfl (U rfl (U rfl ⟨t,od,td,n,g,J,m',x.1,kv,x.2,rfl,a3,d9 d2 hT.own hT.tak hk,d1,by lia,λp hp=>?_,by rw[k];exact ad.nd x.1,λl f H5 o5 eQ d4 b7 G L=>?_⟩))⟩
    ·rw[k]at hp;obtain⟨p0,p1,p2⟩:=ad.in_ x.1 p (List.mem_of_mem_drop hp);rw[a5.2 p p0 p1];exact p2
    ·have b8:=o5 _ _ u a7 a8;have I:∀y∈f,y.2.2≠.ref Z:=λy hy z=>by
      rcases G y hy with⟨y',cE,e⟩|⟨l',e,bc⟩
      ·exact bb y' cE (e.trans z)
      ·rw[e]at z;cases z;rw[u]at bc;cases bc
     have d5:(tW g ((bj m' x.1).drop x.2.toNat).reverse).length<=g.length:=Hf _ _;have c0:fe H2 tk f:=ba.trans G (fresh H4 o4 (by rw[a3.own];simp) (by rw[a3.tak];simp));have aa:=a5.give x.1 kv x.2.toNat;rw[k]at d4 L d5;refine⟨Z,l,_,U rfl ⟨rfl,b8,d4,by rw[c_,c_,Qh,P6,j1];rw[k]at d3;lia,?_⟩⟩;refine hN _ _ ⟨_,f,_,λc o e h1 h2=>?_,L.list b8 I,by rw[bu,zd];exact⟨aa,bt.give x.1 x.2.toNat⟩,c0,by omega,by omega,I,?_,λj y hj hy=>?_,_,_,_,rfl⟩
     ·rw[am (λz=>by rw[z,ap]at e;cases e)];exact o5 _ _ (o4 c o e h1 h2) h1 h2
     ·rw[bu,qb,il];exact O
     ·rw[jb]
      split
      ·rename_i e;rcases Qj j i with bd|bd
       ·have h1:=al j y bd hy;rw[e,k]at h1;rw[no];lia
       ·have:j=i:=by lia
        subst this;rw[hx]at hy;cases hy;rw[no];lia
      ·rename_i e;rcases Qj j i with bd|bd
       ·exact al j y bd hy
       ·have:j=i:=by lia
        subst this;rw[hx]at hy;cases hy;exact absurd rfl e
   ·rintro σ H4⟨g,J,m',o4,a3,⟨a5,bt⟩,ba,dT,dV,bb,u,al,v2,v4,v5,rfl⟩;rw[ku (by lia)]at a5 bt u;have ad:=jG W hO;refine U rfl ⟨wl,rfl,⟨_,aO.of (o4 _ _ r a2.1 a2.2)⟩,?_⟩;refine nj (xs:=ts) (λi σ H'=>OH λM f m5=>OJ (mM od td H2 H') (eF P w K a.bN H' t od td n M f m5) ((jU n (de n (cH S W) (W.take i)) M m5/\wc (c6 K H) n (de n (cH S W) (W.take i)) M)) (fe H2 tk f) ((∀x∈f,x.2.2≠.ref Z)) (H' Z=some (.lst ((dB S W).map V.int))) (f.length<=J.length+i) (M.length<=g.length+1000*i) ((∀j x,i<=j->W[j]?=some x->((bj m5 x.1).length:Int)<=x.2)) (Fk λv4 v5=>σ=[some (.ref t),some (.ref wl),v2,some (.ref Z),v4,v5])) ⟨g,J,m',o4,a3,⟨a5,bt⟩,ba,bb,u,f_ _,f_ _,λj x _ hx=>al j x (by rw[c4];exact(d_.mp hx).1) hx,_,_,rfl⟩ (λi σ H' _ h=>by obtain⟨_,_,_,o,_⟩:=h;exact aO.of (o _ _ r a2.1 a2.2)) ?_ ?_
    ·rintro i v σ H5 hv⟨M,f,m5,o5,L,⟨aa,bz⟩,G,I,an,b7,ea,b9,v4,v5,rfl⟩N R B hN;have hi:i<ts.length:=(d_.mp hv).1;obtain⟨x,hx,b,kv,rfl,hb,hk⟩:=hW.get i v hv;have d1:=c3 x (h_ hx);obtain⟨eS,el⟩:=L.ins;have eb:mM od td H H5:=(mM.of X).trans o5;have c1:=lq (W.take i) ad;have bu:=cu hx;have k:=aa.1 x.1;have d3:(bj m5 x.1).length<=n:=by rw[k];exact yG (c1.nd x.1) λp hp=>⟨(c1.in_ x.1 p hp).1,(c1.in_ x.1 p hp).2.1⟩
     have c2:=b9 i x (f_ _) hx;refine⟨b,U rfl ⟨Gr eb hT.own hT.tak hb,rfl,_,U rfl (aq ⟨_,U rfl (aq ⟨rfl,?_⟩)⟩)⟩⟩;refine pC el rfl rfl (U rfl (U rfl ⟨t,od,td,n,M,f,m5,x.1,kv,x.2,rfl,L,d9 eb hT.own hT.tak hk,hn,c2,by lia,by lia,by lia,λec H6 o6 eq cc ed=>?_⟩));have en:(x.2-((bj m5 x.1).length:Int)).toNat=x.2.toNat-(((de n (cH S W) (W.take i)).pl x.1).length):=by rw[<-k];lia
     rw[en,aa.free,k]at ed;have d5:=xG kv ((pW n (de n (cH S W) (W.take i)).oc).take (x.2.toNat-(((de n (cH S W) (W.take i)).pl x.1).length))) M;have er:((pW n (de n (cH S W) (W.take i)).oc).take (x.2.toNat-(((de n (cH S W) (W.take i)).pl x.1).length))).length<=1000:=by have:=MB n (de n (cH S W) (W.take i)).oc;rw[no];omega
     have eo:=aa.took x.1 kv x.2.toNat;have ef:∀y∈ec,y.2.2≠.ref Z:=λy hy z=>by
      rcases cc y hy with⟨y',cE,e⟩|⟨l',e,bc⟩
      ·exact I y' cE (e.trans z)
      ·rw[e]at z;cases z;rw[an]at bc;cases bc
     refine hN _ _ ⟨_,ec,_,o5.trans o6,ed,by rw[bu,yi];exact⟨eo,bz.took x.1 hk x.2.toNat⟩,G.trans cc (fresh H5 o5 (by rw[L.own];simp) (by rw[L.tak];simp)),ef,o6 _ _ an a7 a8,by omega,by omega,λj y hj hy=>?_,_,_,rfl⟩;rw[jb,ir (λz=>?_)]
     ·exact b9 j y (by lia) hy
     ·have e1:(W.map (·.1))[j]?=some x.1:=by rw[ig,hy,<-z];rfl
      have e2:(W.map (·.1))[i]?=some x.1:=by rw[ig,hx];rfl
      have:=(Px (d_.mp e1).1 eh).mp (e1.trans e2.symm);lia
    ·rintro σ H5⟨M,f,m5,o5,L,⟨aa,bz⟩,G,I,an,b7,ea,_,v4,v5,rfl⟩;rw[ku (by lia)]at aa bz;exact U rfl (q Z M f m5 H5 ((mM.of X).trans o5) L aa bz dc an (fe.trans (fe.refl H tk) G λl hl=>X.free hl) I (by lia) (by lia))
end
abbrev gd(ns:RN)(k:Nat):Int:=ns.getD k 0
def CJ(b gs:RN):Nat->Nat|0=>0|n+1=>if gd b (n+1)*(gd gs (CJ b gs n)+1)>gd b (CJ b gs n)*(gd gs (n+1)+1)then n+1 else CJ b gs n
theorem zp(b gs:RN):∀n,CJ b gs n<=n
 |0=>f_ _|n+1=>by
  have:=zp b gs n;unfold CJ
  split<;>lia
def deal(b:RN):Nat->List Int|0=>List.replicate b.length 0|n+1=>(deal b n).set (CJ b (deal b n) (b.length-1)) (gd (deal b n) (CJ b (deal b n) (b.length-1))+1)
theorem mK(b:RN):∀n,(deal b n).length=b.length|0=>by simp[deal]|n+1=>by rw[deal,vu,mK b n]
def Mx(ns:RN)(i j:Nat)(v:Int)(h:i<ns.length):gd (ns.set i v) j=if i=j then v else gd ns j:=by
 unfold gd;rw[si,si,Qq]
 by_cases e:i=j
 ·rw[i_ e,i_ e];simp[h]
 ·rw[ir e,ir e]
theorem zq(b:RN):∀n k,0<=gd (deal b n) k/\gd (deal b n) k<=n
 |0,k=>by
  have e:gd (deal b 0) k=0:=by
   unfold gd deal;rw[si,List.getElem?_replicate]
   split<;>rfl
  rw[e];exact⟨QY _,by exact QY _⟩|n+1,k=>by
  have c:=zq b n
  by_cases h0:b.length=0
  ·have:(deal b (n+1)).length=0:=by rw[mK,h0]
   have e:=QB.mp this;rw[e];exact⟨QY _,by show(0:Int)<=_;exact j2 _⟩
  ·have d:=zp b (deal b n) (b.length-1);rw[deal,Mx _ _ _ _ (by rw[mK];lia)]
   split
   ·have:=c (CJ b (deal b n) (b.length-1));lia
   ·have:=c k;lia
inductive LE(K:RC)(vs:List V)(H:Hp)(Q:VK)(_E:XK):Prop|mk(wt gl:Addr)(ws gs:RN)(_:vs=[.ref wt,.ref gl])(_:aT K H wt (ws.map V.int))(_:aO K H gl (gs.map V.int))(_:gs.length=ws.length)(_:0<ws.length)(_:ws.length<=4)(_:(∀k,0<=gd gs k/\gd gs k<=2000))(_:Q (.int (CJ ws gs (ws.length-1):Nat)) H)
inductive IX(K:RC)(vs:List V)(H:Hp)(Q:VK)(_E:XK):Prop|mk(n:Nat)(wt:Addr)(ws:RN)(_:vs=[.int n,.ref wt])(_:n<=2000)(_:aT K H wt (ws.map V.int))(_:0<ws.length)(_:ws.length<=4)(_:∀t H',ao H H'->H' t=some (.tup ((deal ws n).map V.int))->Q (.ref t) H')
section
def Ax(T:Txt K mg a):aP P w K mg base dI 1 a.kS.x a.kS.d ["weights","given"] (LE K):=by
 refine T.kS.ok jY λl A outer s H t Q E u h=>?_
 ·obtain⟨m,gl,b,gs,rfl,c,g,j,y,l4,k,q⟩:=h;refine⟨_,(ag (bf 2 jY.nd af) (ag (dw op rfl (xr rfl T.eD (ac af (ac (au (aG K rfl) (by rfl) T.bp L2.aH (ac (Y 0) ae)) ae))) (pF 3 jY.nd) (ah (aJ (aC sE (av gL (cS K (Y 0) (Y 3)) (av bS (iF K (Y 1) (Y 2)) af)) (av gL (cS K (Y 0) (Y 2)) (av bS (iF K (Y 1) (Y 3)) af)) (aE _)) (ah (bf 2 jY.nd (Y 3))) aA))) (ah (ax (Y 2))))),?_⟩
  refine U rfl ⟨_,b.length,rfl,.inr ⟨_,c,by simp⟩,_,U rfl ⟨⟨by decide,by decide,by exact j2 _,by lia⟩,?_⟩⟩;refine gO (lo:=1) (n:=((b.length:Int)-1).toNat) (λi f H'=>H=H'/\∃v,f=[some (.ref m),some (.ref gl),some (.int (CJ b gs i:Nat)),v]) ⟨rfl,_,rfl⟩ ?_ ?_
  ·rintro i f _ hi⟨rfl,v,rfl⟩;have hd:=zp b gs i;have o:0<=gs.getD (CJ b gs i) 0/\gs.getD (CJ b gs i) 0<=2000:=k (CJ b gs i);have p:0<=gs.getD (i+1) 0/\gs.getD (i+1) 0<=2000:=k (i+1);have r:((1:Int)+(i:Int))=((i+1:Nat):Int):=by lia
   refine U rfl (U rfl (rX c (nr (by exact j2 _) (by omega)) (U rfl (U rfl (rX g (nr (by exact j2 _) (by omega)) (r2 (r2 ?_)))))));refine⟨.inr ⟨?_,?_⟩,?_⟩
   ·simp only[pu];lia
   ·simp only[pu];lia
   refine U rfl (U rfl (rX c (nr (by exact j2 _) (by omega)) (U rfl (U rfl (rX g (nr (by exact j2 _) (by omega)) (r2 (r2 ?_)))))));rw[r];refine⟨.inr ⟨?_,?_⟩,?_⟩
   ·simp only[pu];lia
   ·simp only[pu];lia
   refine r2 (U rfl ?_);simp only[pu];refine nB (λh=>?_) (λh=>?_)
   ·refine U rfl ⟨rfl,some (.int ((i+1:Nat):Int)),?_⟩;rw[CJ,i_ h];rfl
   ·refine⟨rfl,some (.int ((i+1:Nat):Int)),?_⟩;rw[CJ,ir h];rfl
  ·rintro f _⟨rfl,v,rfl⟩;have e:((b.length:Int)-1).toNat=b.length-1:=by lia
   rw[e];exact U rfl q
def Gj(T:Txt K mg a):aP P w K mg base dI 2 a.xO.x a.xO.d ["total","weights"] (IX K):=by
 refine T.xO.ok ph λC A outer s H N Q E D h=>?_
 ·obtain⟨n,f,b,rfl,hn,y,F,l4,q⟩:=h;refine⟨_,(ag (bf 2 ph.nd (av Gg (bg (ac af ae)) (au (aG K rfl) (by rfl) T.bp L2.aH (ac (Y 1) ae)))) (ag (dw op rfl (c9 rfl T.eD (ac (Y 0) ae)) (pF 3 ph.nd) (ag (bf 4 ph.nd (pc T.kS (Ax T) D (ac (Y 1) (ac (Y 2) ae)))) (ah (iS (av bS (iF K (Y 2) (Y 4)) af) (iU (Y 2) (Y 4) F1))))) (ah (ax (db (fS K rfl) (by rfl) T.dO L2.bT (ac (Y 2) ae)))))),?_⟩
  refine⟨ls rfl,λl z=>?_⟩;have j:aT K (az H l (.lst [.int 0])) f (b.map V.int):=ao.tseq (ai (ao.refl H) z) y;refine U rfl ⟨_,b.length,rfl,.inr ⟨_,j,by simp⟩,l,_,U rfl ⟨rfl,O,by exact j2 _,by lia,dn (by simp;lia),λg hg=>?_⟩⟩;have G:ao H (az (az H l (.lst [.int 0])) g (.lst (List.replicate (b.length:Int).toNat [V.int 0]).flatten)):=ai (ai (ao.refl H) z) hg;have I:(List.replicate (b.length:Int).toNat [V.int 0]).flatten=(deal b 0).map V.int:=by
   rw[pu,deal,List.map_replicate];generalize b.length=m
   induction m with|zero=>rfl|succ m J=>rw[r_,Pz,J,r_];rfl
  have o:H g=none:=(Me hg).2;refine U rfl ⟨(n:Int),rfl,by exact j2 _,by lia,?_⟩;refine gO (lo:=0) (n:=(n:Int).toNat) (λi p H'=>ao H H'/\H' g=some (.lst ((deal b i).map V.int))/\(Fk λr u=>p=[some (.int n),some (.ref f),some (.ref g),r,u])) ⟨G,by rw[O,I],_,_,rfl⟩ ?_ ?_
  ·rintro i p L hi⟨e,c,r,u,rfl⟩;have B:=zq b i;have hd:=zp b (deal b i) (b.length-1);have v:=mK b i;refine U rfl (U rfl ⟨f,g,b,deal b i,rfl,ao.tseq e y,aO.of c,v,F,l4,λk=>⟨(B k).1,by have:=(B k).2;lia⟩,?_⟩);refine U rfl (U rfl (rX (aO.of c) (nr (by exact j2 _) (by lia)) (r2 ?_)));refine U rfl (U rfl ⟨g,_,_,U rfl ⟨rfl,c,J5 (by exact j2 _) (by simp;lia),?_⟩⟩);refine⟨a0 e o,?_,_,_,rfl⟩;rw[O];simp only[pu];rw[AN];rfl
  ·rintro p L⟨e,c,r,u,rfl⟩;refine U rfl ⟨g,U rfl (.inl ⟨aO.of c,λt M=>?_⟩)⟩;exact q t _ (ai e M) O
end
inductive zU(C:Addr)(vs:List V)(H:Hp)(Q:VK)(_E:XK):Prop|mk(t dx ar ru sh:Addr)(hm:Str)(_:vs=[.ref t,.str hm,.ref ar,.ref ru,.ref sh])(_:H t=some (.ins C dx []))(_:∀(ba:Addr)H',H ba=none->(∀b o,H b=some o->b≠t->H' b=some o)->H' t=some (.ins C dx [("home",.str hm),("arms",.ref ar),("rule",.ref ru),("shuts",.ref sh),("paused",.bl false),("closed",.bl false),("barred",.ref ba)])->H' ba=some (.dK [])->Q .non H')
section
def tK(T:Txt K mg a):aP P w K mg base dI 1 a.dQ.x a.dQ.d ["self","home","arms","rule","shuts"] (zU a.fq):=by
 refine T.dQ.ok tF λk A outer s H m Q E n h=>?_
 ·obtain⟨t,dx,ar,ru,sh,hm,rfl,l,q⟩:=h;refine⟨_,(ag (cw K rfl (Y 0) (Y 1)) (ag (cw K rfl (Y 0) (Y 2)) (ag (cw K rfl (Y 0) (Y 3)) (ag (cw K rfl (Y 0) (Y 4)) (ag (cw K rfl (Y 0) fc) (ag (cw K rfl (Y 0) fc) (ah (cw K rfl (Y 0) iJ)))))))),?_⟩
  refine U rfl (U rfl ⟨t,_,dx,U rfl ⟨l,T.be,T.kx,by simp,?_⟩⟩);rw[show eL "home" (V.str hm) []=([("home",V.str hm)]:List (Str×V))from rfl];refine U rfl (U rfl ⟨t,_,dx,U rfl ⟨O,T.be,T.iE,by simp,?_⟩⟩);rw[fZ,show eL "arms" (V.ref ar) [("home",V.str hm)]=([("home",V.str hm),("arms",V.ref ar)]:List (Str×V))from rfl];refine U rfl (U rfl ⟨t,_,dx,U rfl ⟨O,T.be,T.nQ,by simp,?_⟩⟩);rw[fZ,show eL "rule" (V.ref ru) [("home",V.str hm),("arms",V.ref ar)]=([("home",V.str hm),("arms",V.ref ar),("rule",V.ref ru)]:List (Str×V))from rfl];refine U rfl (U rfl ⟨t,_,dx,U rfl ⟨O,T.be,T.mF,by simp,?_⟩⟩);rw[fZ,show eL "shuts" (V.ref sh) [("home",V.str hm),("arms",V.ref ar),("rule",V.ref ru)]=([("home",V.str hm),("arms",V.ref ar),("rule",V.ref ru),("shuts",V.ref sh)]:List (Str×V))from rfl];refine U rfl ⟨t,_,dx,U rfl ⟨O,T.be,T.iV,by simp,?_⟩⟩;rw[fZ,show eL "paused" (V.bl false) [("home",V.str hm),("arms",V.ref ar),("rule",V.ref ru),("shuts",V.ref sh)]=([("home",V.str hm),("arms",V.ref ar),("rule",V.ref ru),("shuts",V.ref sh),("paused",V.bl false)]:List (Str×V))from rfl];refine U rfl ⟨t,_,dx,U rfl ⟨O,T.be,T.d6,by simp,?_⟩⟩;rw[fZ,show eL "closed" (V.bl false) [("home",V.str hm),("arms",V.ref ar),("rule",V.ref ru),("shuts",V.ref sh),("paused",V.bl false)]=([("home",V.str hm),("arms",V.ref ar),("rule",V.ref ru),("shuts",V.ref sh),("paused",V.bl false),("closed",V.bl false)]:List (Str×V))from rfl];refineλf c=>?_;have i:t≠f:=λz=>by rw[<-z,O]at c;cases c
  refine U rfl ⟨t,_,dx,U rfl ⟨by rw[am i];exact O,T.be,T.iW,by simp,?_⟩⟩;rw[show eL "barred" (V.ref f) [("home",V.str hm),("arms",V.ref ar),("rule",V.ref ru),("shuts",V.ref sh),("paused",V.bl false),("closed",V.bl false)]=([("home",V.str hm),("arms",V.ref ar),("rule",V.ref ru),("shuts",V.ref sh),("paused",V.bl false),("closed",V.bl false),("barred",V.ref f)]:List (Str×V))from rfl];have g:H f=none:=by rw[am (o_ i)]at c;exact c
  refine q f _ g (λb o e j=>?_) O (by rw[am (o_ i)];exact O);rw[am j,am (aD e g),am j];exact e
end
inductive zV(P:RH)(w:World)(K:RC)(C D:Addr)(vs:List V)(H:Hp)(Q:VK)(_E:XK):Prop|mk(t dx:Addr)(z:Int)(n:Nat)(_:vs=[.ref t,.int z,.int n])(_:H t=some (.ins C dx []))(_:∀(tb od td iu:Addr)H',H tb=none->H od=none->H td=none->H iu=none->od≠iu->(∀b o,H b=some o->b≠t->H' b=some o)->H' t=some (.ins C dx [("slope",.int z),("table",.ref tb),("inside",.ref iu)])->eF P w K D H' tb od td n [] [] []->H' iu=some (.dK [])->Q .non H')
section
def tM(T:Txt K mg a):aP P w K mg base dI 3 a.dX.x a.dX.d ["self","slope","many"] (zV P w K a.eQ a.bN):=by
 refine T.dX.ok tH λZ A outer s H vs Q E hr h=>?_
 ·obtain⟨t,dx,z,n,rfl,hT,q⟩:=h;refine⟨_,(ag (cw K rfl (Y 0) (Y 1)) (ag (cw K rfl (Y 0) (t7 T.GD ((tL (P:=P) (w:=w) T).mono (by decide)) hr rfl T.JO T.dU.b .nil bx (ac (Y 2) ae))) (ah (cw K rfl (Y 0) iJ)))),?_⟩
  refine U rfl (U rfl ⟨t,_,dx,U rfl ⟨hT,T.cg,T.jE,by simp,?_⟩⟩);rw[show eL "slope" (V.int z) []=([("slope",V.int z)]:List (Str×V))from rfl];have f1:∀b o,H b=some o->b≠t->az H t (.ins a.eQ dx [("slope",V.int z)]) b=some o:=λb o e m=>by rw[am m];exact e
  have g:az H t (.ins a.eQ dx [("slope",V.int z)]) t=some (.ins a.eQ dx [("slope",V.int z)]):=O;have y:∀b,az H t (.ins a.eQ dx [("slope",V.int z)]) b=none->H b=none:=λb e=>by
   by_cases h:b=t
   ·rw[h,O]at e;cases e
   ·rw[am h]at e;exact e
  generalize az H t (.ins a.eQ dx [("slope",V.int z)])=k at f1 g y⊢;refine U rfl (λc ty i G I=>?_);have f2:∀b o,k b=some o->az (az k ty (.own c)) c (.ins a.bN ty []) b=some o:=λb o e=>by rw[am (aD e i),am (aD e G)];exact e
  have B:az (az k ty (.own c)) c (.ins a.bN ty []) c=some (.ins a.bN ty []):=O;have C:az (az k ty (.own c)) c (.ins a.bN ty []) ty=some (.own c):=by rw[am I];exact O
  generalize az (az k ty (.own c)) c (.ins a.bN ty [])=H2 at f2 B C⊢;refine⟨c,ty,n,rfl,B,C,λW X D p r f3 f=>⟨rfl,?_⟩⟩;have n1:∀b,H2 b=none->k b=none:=λb e=>by cases z:k b with|none=>rfl|some o=>rw[f2 b o z]at e;cases e
  have u:∀b o,k b=some o->D b=some o:=λb o e=>f3 b o (f2 b o e) (aD e i);have J:=u _ _ g;refine U rfl ⟨t,_,dx,U rfl ⟨J,T.cg,T.gm,by simp,?_⟩⟩;rw[show eL "table" (V.ref c) [("slope",V.int z)]=([("slope",V.int z),("table",V.ref c)]:List (Str×V))from rfl];refineλv l=>?_;have L:t≠v:=λz=>by rw[<-z,O]at l;cases l
  have j:D v=none:=by rw[am (o_ L)]at l;exact l
  refine U rfl ⟨t,_,dx,U rfl ⟨by rw[am L];exact O,T.cg,T.bQ,by simp,?_⟩⟩;rw[show eL "inside" (V.ref v) [("slope",V.int z),("table",V.ref c)]=([("slope",V.int z),("table",V.ref c),("inside",V.ref v)]:List (Str×V))from rfl];have n3:∀b,D b=none->k b=none:=λb e=>by cases z:k b with|none=>rfl|some o=>rw[u b o z]at e;cases e
  have F:∀b o,D b=some o->b≠t->az (az (az D t (.ins a.eQ dx [("slope",V.int z),("table",V.ref c)])) v (.dK [])) t (.ins a.eQ dx [("slope",V.int z),("table",V.ref c),("inside",V.ref v)]) b=some o:=λb o e m=>by rw[am m,am (aD e j),am m];exact e
  have M:c≠t:=λz=>by rw[z,g]at i;cases i
  have N:W≠t:=λz=>by rw[z,f2 _ _ g]at p;cases p
  have R:X≠t:=λz=>by rw[z,f2 _ _ g]at r;cases r
  refine q c W X v _ (y _ i) (y _ (n1 _ p)) (y _ (n1 _ r)) (y _ (n3 _ j)) (aD f.own j) (λb o e m=>F b o (u b o (f1 b o e m)) m) O ?_ (by rw[am (o_ L)];exact O);obtain⟨S,hI⟩:=f.ins;exact⟨⟨S,F _ _ hI M⟩,F _ _ f.own N,F _ _ f.tak R,λx hx=>(by cases hx),.nil⟩
end
def ua(d:H t=some g)(c:H x=none):(∀b o,H b=some o->b≠t->az (az H x o2) t o3 b=some o)/\az (az H x o2) t o3 t=some o3/\az (az H x o2) t o3 x=some o2/\x≠t:=by
 have n:x≠t:=λz=>by rw[z,d]at c;cases c
 exact⟨λb o e f=>by rw[am f,am (aD e c)];exact e,O,by rw[am n];exact O,n⟩
inductive zW(C:Addr)(vs:List V)(H:Hp)(Q:VK)(_E:XK):Prop|mk(t dx:Addr)(z sa:Int)(_:vs=[.ref t,.int z,.int sa])(_:H t=some (.ins C dx []))(_:(2<=z/\z<=997))(_:(∀i:Nat,2+(i:Int)<z->z%(2+(i:Int))≠0))(_:(0<=sa/\sa<=df))(_:∀(ln tn ci dl:Addr)H',H ln=none->H tn=none->H ci=none->H dl=none->ln≠tn->ln≠ci->tn≠ci->(∀b o,H b=some o->b≠t->H' b=some o)->H' t=some (.ins C dx [("own_prime",.int z),("own_salt",.int sa),("layer_named",.ref ln),("trial_named",.ref tn),("came_into",.ref ci),("deeds",.ref dl)])->H' ln=some (.dK [])->H' tn=some (.dK [])->H' ci=some (.dK [])->H' dl=some (.lst [])->Q .non H')
section
def tO(T:Txt K mg a):aP P w K mg base dI 5 a.dZ.x a.dZ.d ["self","prime","salt"] (zW a.bu):=by
 refine T.dZ.ok tI λa6 A outer s H vs Q E hr h=>?_
 ·obtain⟨t,dx,z,sa,rfl,ap,h1,h2,h3,q⟩:=h;refine⟨_,(ag (aN (pc T.fP (uZ T) hr (ac (Y 1) (ac (Y 2) ae)))) (ag (cw K rfl (Y 0) (Y 1)) (ag (cw K rfl (Y 0) (Y 2)) (ag (cw K rfl (Y 0) iJ) (ag (cw K rfl (Y 0) iJ) (ag (cw K rfl (Y 0) iJ) (ah (cw K rfl (Y 0) (bg ae))))))))),?_⟩
  refine U rfl (U rfl ⟨z,sa,rfl,h1,h2,h3,λH0 s0=>?_⟩);have hT:=s0 _ _ ap;refine U rfl (U rfl ⟨t,_,dx,U rfl ⟨hT,T.aF,T.cQ,by simp,?_⟩⟩);rw[show eL "own_prime" (V.int z) []=([("own_prime",V.int z)]:List (Str×V))from rfl];refine U rfl (U rfl ⟨t,_,dx,U rfl ⟨O,T.aF,T.ka,by simp,?_⟩⟩);rw[fZ,show eL "own_salt" (V.int sa) [("own_prime",V.int z)]=([("own_prime",V.int z),("own_salt",V.int sa)]:List (Str×V))from rfl];have f1:∀b o,H b=some o->b≠t->az H0 t (.ins a.bu dx [("own_prime",V.int z),("own_salt",V.int sa)]) b=some o:=λb o e i=>by rw[am i];exact s0 _ _ e
  have M:az H0 t (.ins a.bu dx [("own_prime",V.int z),("own_salt",V.int sa)]) t=some (.ins a.bu dx [("own_prime",V.int z),("own_salt",V.int sa)]):=O;generalize az H0 t (.ins a.bu dx [("own_prime",V.int z),("own_salt",V.int sa)])=H1 at f1 M⊢;refineλln N=>?_;obtain⟨g2,R,k,f⟩:=ua (o2:=.dK []) (o3:=.ins a.bu dx [("own_prime",V.int z),("own_salt",V.int sa),("layer_named",V.ref ln)]) M N;refine U rfl ⟨t,_,dx,U rfl ⟨by rw[am (o_ f)];exact M,T.aF,T.aX,by simp,?_⟩⟩;rw[show eL "layer_named" (V.ref ln) [("own_prime",V.int z),("own_salt",V.int sa)]=([("own_prime",V.int z),("own_salt",V.int sa),("layer_named",V.ref ln)]:List (Str×V))from rfl];have f2:∀b o,H b=some o->b≠t->az (az H1 ln (.dK [])) t (.ins a.bu dx [("own_prime",V.int z),("own_salt",V.int sa),("layer_named",V.ref ln)]) b=some o:=λb o e i=>g2 b o (f1 b o e i) i;have as:H ln=none:=by cases S:H ln with|none=>rfl|some o=>rw[f1 ln o S f]at N;cases N
  generalize az (az H1 ln (.dK [])) t (.ins a.bu dx [("own_prime",V.int z),("own_salt",V.int sa),("layer_named",V.ref ln)])=H2 at f2 g2 R k⊢;refineλtn y=>?_;obtain⟨g3,W,l,g⟩:=ua (o2:=.dK []) (o3:=.ins a.bu dx [("own_prime",V.int z),("own_salt",V.int sa),("layer_named",V.ref ln),("trial_named",V.ref tn)]) R y;refine U rfl ⟨t,_,dx,U rfl ⟨by rw[am (o_ g)];exact R,T.aF,T.a9,by simp,?_⟩⟩;rw[show eL "trial_named" (V.ref tn) [("own_prime",V.int z),("own_salt",V.int sa),("layer_named",V.ref ln)]=([("own_prime",V.int z),("own_salt",V.int sa),("layer_named",V.ref ln),("trial_named",V.ref tn)]:List (Str×V))from rfl];have f3:∀b o,H b=some o->b≠t->az (az H2 tn (.dK [])) t (.ins a.bu dx [("own_prime",V.int z),("own_salt",V.int sa),("layer_named",V.ref ln),("trial_named",V.ref tn)]) b=some o:=λb o e i=>g3 b o (f2 b o e i) i;have m:=g3 _ _ k f;have B:ln≠tn:=aD k y;have a2:H tn=none:=by cases S:H tn with|none=>rfl|some o=>rw[f2 tn o S g]at y;cases y
  generalize az (az H2 tn (.dK [])) t (.ins a.bu dx [("own_prime",V.int z),("own_salt",V.int sa),("layer_named",V.ref ln),("trial_named",V.ref tn)])=H3 at f3 g3 W l m⊢;refineλc n=>?_;obtain⟨g4,X,p,r⟩:=ua (o2:=.dK []) (o3:=.ins a.bu dx [("own_prime",V.int z),("own_salt",V.int sa),("layer_named",V.ref ln),("trial_named",V.ref tn),("came_into",V.ref c)]) W n;refine U rfl ⟨t,_,dx,U rfl ⟨by rw[am (o_ r)];exact W,T.aF,T.cR,by simp,?_⟩⟩;rw[show eL "came_into" (V.ref c) [("own_prime",V.int z),("own_salt",V.int sa),("layer_named",V.ref ln),("trial_named",V.ref tn)]=([("own_prime",V.int z),("own_salt",V.int sa),("layer_named",V.ref ln),("trial_named",V.ref tn),("came_into",V.ref c)]:List (Str×V))from rfl];have f4:∀b o,H b=some o->b≠t->az (az H3 c (.dK [])) t (.ins a.bu dx [("own_prime",V.int z),("own_salt",V.int sa),("layer_named",V.ref ln),("trial_named",V.ref tn),("came_into",V.ref c)]) b=some o:=λb o e i=>g4 b o (f3 b o e i) i;have u:=g4 _ _ m f;have C:ln≠c:=aD m n;have v:=g4 _ _ l g;have D:tn≠c:=aD l n;have a3:H c=none:=by cases S:H c with|none=>rfl|some o=>rw[f3 c o S r]at n;cases n
  generalize az (az H3 c (.dK [])) t (.ins a.bu dx [("own_prime",V.int z),("own_salt",V.int sa),("layer_named",V.ref ln),("trial_named",V.ref tn),("came_into",V.ref c)])=H4 at f4 g4 X p u v⊢;refine⟨ls rfl,λdl j=>?_⟩;obtain⟨Z,aa,F,G⟩:=ua (o2:=.lst []) (o3:=.ins a.bu dx [("own_prime",V.int z),("own_salt",V.int sa),("layer_named",V.ref ln),("trial_named",V.ref tn),("came_into",V.ref c),("deeds",V.ref dl)]) X j;refine U rfl ⟨t,_,dx,U rfl ⟨by rw[am (o_ G)];exact X,T.aF,T.mG,by simp,?_⟩⟩;rw[show eL "deeds" (V.ref dl) [("own_prime",V.int z),("own_salt",V.int sa),("layer_named",V.ref ln),("trial_named",V.ref tn),("came_into",V.ref c)]=([("own_prime",V.int z),("own_salt",V.int sa),("layer_named",V.ref ln),("trial_named",V.ref tn),("came_into",V.ref c),("deeds",V.ref dl)]:List (Str×V))from rfl];have f5:∀b o,H b=some o->b≠t->az (az H4 dl (.lst [])) t (.ins a.bu dx [("own_prime",V.int z),("own_salt",V.int sa),("layer_named",V.ref ln),("trial_named",V.ref tn),("came_into",V.ref c),("deeds",V.ref dl)]) b=some o:=λb o e i=>Z b o (f4 b o e i) i;have I:=Z _ _ u f;have ad:ln≠dl:=aD u j;have J:=Z _ _ v g;have al:tn≠dl:=aD v j;have L:=Z _ _ p r;have an:c≠dl:=aD p j;have a5:H dl=none:=by cases S:H dl with|none=>rfl|some o=>rw[f4 dl o S G]at j;cases j
  generalize az (az H4 dl (.lst [])) t (.ins a.bu dx [("own_prime",V.int z),("own_salt",V.int sa),("layer_named",V.ref ln),("trial_named",V.ref tn),("came_into",V.ref c),("deeds",V.ref dl)])=H5 at f5 Z aa F I J L⊢;exact q ln tn c dl _ as a2 a3 a5 B C D f5 aa I J L F
end
def Di(c:Nat):Int:=Txt.find kz ⟨#[c]⟩
def yH(m:Int)(cs:RL):Int:=cs.foldl (λm c=>1009*m+Di c+1) m
def GG{m:Int}{cs:RL}{i c:Nat}(h:cs[i]?=some c):yH m (cs.take (i+1))=1009*yH m (cs.take i)+Di c+1:=by unfold yH;rw[F_,h,Py];rfl
def Mc{c:Nat}(h:c∈kz.cps.toList):∃i r,Builtin.Str.occurrences kz ⟨#[c]⟩ 0 kz.length 1=i::r/\Di c=(i:Nat):=by have e:=StrLaws.found_one kz c;rw[m3 h]at e;cases q:Builtin.Str.occurrences kz ⟨#[c]⟩ 0 kz.length 1 with|nil=>rw[q]at e;cases e|cons i r=>refine⟨i,r,rfl,?_⟩;unfold Di Txt.find;rw[q]
def wy(p m sl:Int)(x:Str):Int:=if sl=p then yH m x.cps.toList%(p*p)%p else(yH m x.cps.toList%(p*p)/p+sl*(yH m x.cps.toList%(p*p)%p))%p
inductive IO(vs:List V)(H:Hp)(Q:VK)(_E:XK):Prop|mk(p:_)(m:_)(x:_)(_:vs=[.int p,.int m,.str x])(_:Bw x)(_:(2<=p/\p<=997))(_:∀t,H t=none->Q (.ref t) (az H t (.tup [.int (yH m x.cps.toList%(p*p)/p),.int (yH m x.cps.toList%(p*p)%p)])))
inductive IQ(K:RC)(vs:List V)(H:Hp)(Q:VK)(_E:XK):Prop|mk(t:Addr)(p s x y:Int)(_:vs=[.int p,.int s,.ref t])(_:aT K H t [.int x,.int y])(_:0<p)(_:(0<=s/\s<=1000))(_:Q (.int (if s=p then y else(x+s*y)%p)) H)
inductive D8(a:jl)(vs:List V)(H:Hp)(Q:VK)(_E:XK):Prop|mk(h lo dx dl:Addr)(fs gs:List (Str×V))(p m sl:Int)(x:Str)(_:vs=[.ref h,.ref lo,.str x])(_:H h=some (.ins a.bu dx fs))(_:fs.lookup ("own_prime":Str)=some (V.int p))(_:fs.lookup ("own_salt":Str)=some (V.int m))(_:H lo=some (.ins a.eQ dl gs))(_:gs.lookup ("slope":Str)=some (V.int sl))(_:Bw x)(_:(2<=p/\p<=997))(_:(0<=sl/\sl<=1000))(_:∀H',ao H H'->Q (.int (wy p m sl x)) H')
section
def Av(T:Txt K mg a):aP P w K mg base dI 1 a.kO.x a.kO.d ["p","salt","guest"] IO:=by
 refine T.kO.ok jX λf A outer s H k Q E l h=>?_
 ·obtain⟨p,m,x,rfl,hg,⟨p0,p1⟩,q⟩:=h;refine⟨_,(ag (bf 3 jX.nd (Y 1)) (ag (dw op rfl (Gc (Y 2)) (pF 4 jX.nd) (ah (bf 3 jX.nd (av bS (av bS (av gL (cA T.Ko rfl) (Y 3)) (gK K rfl PySem.F.plainAttrs_str PySem.F.slot_str_index PySem.F.type_str_index GB (cA T.nW rfl) (ac (Y 4) ae))) af)))) (ah (ax (au Bl (by rfl) T.GA L2.Bn (ac (av aR (Y 3) (av gL (Y 0) (Y 0))) (ac (Y 0) ae))))))),?_⟩
  refine U rfl (U rfl ⟨x,rfl,?_⟩);refine Kf (λi b H'=>H=H'/\∃v,b=[some (.int p),some (.int m),some (.str x),some (.int (yH m (x.cps.toList.take i))),v]) ⟨rfl,_,rfl⟩ ?_ ?_
  ·rintro i c b _ hc⟨rfl,v,rfl⟩;obtain⟨j,r,g,hn⟩:=Mc (hg.cs c (h_ hc));refine U rfl (r2 ⟨.inl ⟨by decide,by decide⟩,rfl,U rfl ⟨kz,_,j,r,rfl,rfl,g,_,U rfl ⟨rfl,r2 ⟨rfl,some (.str ⟨#[c]⟩),?_⟩⟩⟩⟩);rw[GG hc,hn];rfl
  ·rintro b _⟨rfl,v,rfl⟩;rw[ku (f_ _)];have e:(0:Int)<p*p:=Int.mul_pos (by exact Rc p0) (by exact Rc p0);exact U rfl (U rfl (U rfl (r2 ⟨.inl ⟨by lia,by lia⟩,_,U rfl ⟨rfl,e,U rfl ⟨_,U rfl ⟨⟨by exact Rc p0,by lia⟩,q⟩⟩⟩⟩)))
def Aw(T:Txt K mg a):aP P w K mg base dI 1 a.kP.x a.kP.d ["p","slope","point"] (IQ K):=by
 refine T.kP.ok mi λc A outer s H e Q E f h=>?_
 ·obtain⟨t,p,s,x,y,rfl,b,p0,⟨g,i⟩,q⟩:=h;refine⟨_,(ag (bf 3 mi.nd (cS K (Y 2) af)) (ag (bf 4 mi.nd (cS K (Y 2) af)) (ag (aJ (aC aS (Y 1) (Y 0) (aE _)) (ah (ax (Y 4))) aA) (ah (ax (av aR (av bS (Y 3) (av gL (Y 1) (Y 4))) (Y 0))))))),?_⟩
  (iterate 2 refine U rfl (rX b rfl ?_));refine U rfl (U rfl ⟨rfl,U rfl (kW (λh=>?_) (λh=>?_))⟩)
  ·rw[i_ h]at q;exact U rfl q
  ·rw[ir h]at q;exact U rfl (U rfl (U rfl (r2 ⟨.inl ⟨by lia,by lia⟩,_,U rfl ⟨rfl,U rfl (r2 ⟨p0,q⟩)⟩⟩)))
def j6(T:Txt K mg a):aP P w K mg base dI 2 a.cb.x a.cb.d ["self","layer","guest"] (D8 a):=by
 refine T.cb.ok pq λf A outer s H r Q E c h=>?_
 ·obtain⟨h,lo,dx,dl,fs,gs,p,m,sl,x,rfl,b,e,g,i,j,k,l,n,q⟩:=h;refine⟨_,(ah (ax (pc T.kP (Aw T) c (ac (aI K rfl (Y 0)) (ac (aI K rfl (Y 1)) (ac (pc T.kO (Av T) c (ac (aI K rfl (Y 0)) (ac (aI K rfl (Y 0)) (ac (Y 2) ae)))) ae)))))),?_⟩;refine U rfl ⟨h,_,dx,_,U rfl ⟨b,T.aF,T.cQ,e,U rfl ⟨lo,_,dl,_,U rfl ⟨i,T.cg,T.jE,j,U rfl ⟨h,_,dx,_,U rfl ⟨b,T.aF,T.cQ,e,U rfl ⟨h,_,dx,_,U rfl ⟨b,T.aF,T.ka,g,U rfl ⟨p,m,x,rfl,k,l,λt o=>?_⟩⟩⟩⟩⟩⟩⟩⟩⟩;exact⟨t,p,sl,_,_,rfl,aT.of O,by lia,n,q _ (ai (ao.refl H) o)⟩
end
abbrev fF(x y:Str):ca:=.inr [.inr x,.inr y]
structure cD where
 nm:Str
 sl:Int
 S:AS
 ins:List (Str×Str×Str)
structure et where
 nm:Str
 home:Str
 arms:List Str
 rule:Ru
 shuts:List Str
 pau:Bool
 clo:Bool
 bar:List Str
structure bG where
 p:Nat
 salt:Int
 las:List cD
 trs:List et
 came:List (Str×List (Str×Str))
inductive Ro|hh|ln|tn|ci|dl|lo(i:Nat)|iu(i:Nat)|tb(i:Nat)|od(i:Nat)|td(i:Nat)|tr(i:Nat)|ba(i:Nat)deriving DecidableEq
structure ZS where
 G:Ro->Addr
 dx:Ro->Addr
 cv:List (bL×V)ds:List V
 iv:Nat->List (bL×V)ow:Nat->List (bL×V)tk:Nat->List iX
 ar:Nat->Addr
 ru:Nat->V
 sh:Nat->Addr
def jT:List Str->(Nat->V)->List (bL×V)|[],_=>[]|n::r,f=>(.inr n,f 0)::jT r λi=>f (i+1)
def cont(P:RH)(w:World)(a:jl)(M:bG)(Z:ZS):Ro->Option HO|.hh=>some (.ins a.bu (Z.dx .hh) [("own_prime",.int M.p),("own_salt",.int M.salt),("layer_named",.ref (Z.G .ln)),("trial_named",.ref (Z.G .tn)),("came_into",.ref (Z.G .ci)),("deeds",.ref (Z.G .dl))])|.ln=>some (.dK (jT (M.las.map cD.nm) λi=>.ref (Z.G (.lo i))))|.tn=>some (.dK (jT (M.trs.map et.nm) λi=>.ref (Z.G (.tr i))))|.ci=>some (.dK Z.cv)|.dl=>some (.lst Z.ds)|.lo i=>M.las[i]?.map λl=>.ins a.eQ (Z.dx (.lo i)) [("slope",.int l.sl),("table",.ref (Z.G (.tb i))),("inside",.ref (Z.G (.iu i)))]|.iu i=>M.las[i]?.map λ_=>.dK (Z.iv i)|.tb i=>M.las[i]?.map λ_=>.ins a.bN (Z.dx (.tb i)) [("many",.int M.p),("owners",.ref (Z.G (.od i))),("taken",.ref (Z.G (.td i)))]|.od i=>M.las[i]?.map λ_=>.dK (Z.ow i)|.td i=>M.las[i]?.map λ_=>dM P w (Z.G (.td i)) (Z.tk i)|.tr i=>M.trs[i]?.map λt=>.ins a.fq (Z.dx (.tr i)) [("home",.str t.home),("arms",.ref (Z.ar i)),("rule",Z.ru i),("shuts",.ref (Z.sh i)),("paused",.bl t.pau),("closed",.bl t.clo),("barred",.ref (Z.G (.ba i)))]|.ba i=>M.trs[i]?.map λt=>.dK (t.bar.map λg=>(.inr g,.bl true))
def bR(K:RC)(H:Hp)(iv:List (bL×V))(ins:List (Str×Str×Str)):Prop:=Paired (λ(x:bL×V)(y:Str×Str×Str)=>x.1=.inr y.1/\∃s,x.2=.ref s/\aT K H s [.str y.2.1,.str y.2.2]) iv ins
def cT(K:RC)(H:Hp)(b:List V)(c:List (Str×Str)):Prop:=Paired (λ(u:V)(y:Str×Str)=>∃s,u=.ref s/\aT K H s [.str y.1,.str y.2]) b c
def eB(K:RC)(H:Hp)(dl:Addr)(cv:List (bL×V))(cm:List (Str×List (Str×Str))):Prop:=Paired (λ(x:bL×V)(y:Str×List (Str×Str))=>x.1=.inr y.1/\∃l b,x.2=.ref l/\l≠dl/\H l=some (.lst b)/\cT K H b y.2) cv cm
structure Im(dl:Addr)(H H':Hp):Prop where
 kp:Kp H H'
 ls:∀b xs,H b=some (.lst xs)->b≠dl->H' b=some (.lst xs)
def jF(e:Kp H H')(h:c6 K H k v):c6 K H' k v:=by cases k with|inl k=>exact h|inr c=>obtain⟨b,h1,h2⟩:=h;exact⟨b,h1,e.tq h2⟩
section
variable{K:RC}{H a:Hp}{dl:Addr}
theorem Im.of(h:ao H a):Im dl H a:=⟨.of h,λb c e _=>h b _ e⟩
def bR.kp(e:Kp H a)(h:bR K H iv ins):bR K a iv ins:=Paired.mapP h λ_ _ q=>⟨q.1,q.2.imp λ_ q=>⟨q.1,e.tq q.2⟩⟩
def cT.kp(e:Kp H a)(h:cT K H b c):cT K a b c:=Paired.mapP h λ_ _ q=>q.imp λ_ q=>⟨q.1,e.tq q.2⟩
def eB.im(e:Im dl H a)(h:eB K H dl cv cm):eB K a dl cv cm:=Paired.mapP h λ_ _ q=>⟨q.1,q.2.imp λ_ q=>q.imp λ_ q=>⟨q.1,q.2.1,e.ls _ _ q.2.2.1 q.2.1,q.2.2.2.kp e.kp⟩⟩
def eX.im(e:Im dl H a)(n:∀x∈tk,x.2.2≠.ref dl)(h:eX H tk m):eX a tk m:=Paired.mapM h λx b _ q=>⟨q.1,q.2.1,q.2.2.imp λ_ q=>⟨q.1,e.ls _ _ q.2 λz=>n x b (by rw[q.1,z])⟩⟩
end
structure bA(P:RH)(w:World)(K:RC)(a:jl)(H:Hp)(M:bG)(Z:ZS):Prop where
 inj:∀r r' o o',cont P w a M Z r=some o->cont P w a M Z r'=some o'->Z.G r=Z.G r'->r=r'
 at_:∀r o,cont P w a M Z r=some o->H (Z.G r)=some o
 seats:∀i l,M.las[i]?=some l->bR K H (Z.iv i) l.ins
 trs:∀i t,M.trs[i]?=some t->aT K H (Z.ar i) (t.arms.map V.str)/\eY K H t.rule (Z.ru i)/\aT K H (Z.sh i) (t.shuts.map V.str)tabs:∀i l,M.las[i]?=some l->eA K H (Z.tk i)/\(∃m,eX H (Z.tk i) m/\jU M.p l.S (Z.ow i) m)/\wc (c6 K H) M.p l.S (Z.ow i)/\∀x∈Z.tk i,x.2.2≠.ref (Z.G .dl)came:eB K H (Z.G .dl) Z.cv M.came
section
variable{P:RH}{w:World}{K:RC}{a:jl}{H H':Hp}{M s:bG}{Z c:ZS}
def bA.imm(h:bA P w K a H M Z)(e:cont P w a M Z r=some o)(f:∀b o,H b=some o->b≠Z.G r->H' b=some o):Im (Z.G .dl) H H':=by
 have g:=h.at_ r o e;have i:(∀d,o≠.tup d)/\(∀x y,o≠.frz x y)/\∀d,o=.lst d->r=.dl:=by
  cases r<;>simp only[cont,Option.map_eq_some_iff,Qo]at e
  case hh=>subst e;exact⟨λ_ z=>(nomatch z),λ_ _ z=>(nomatch z),λ_ z=>(nomatch z)⟩
  case ln=>subst e;exact⟨λ_ z=>(nomatch z),λ_ _ z=>(nomatch z),λ_ z=>(nomatch z)⟩
  case tn=>subst e;exact⟨λ_ z=>(nomatch z),λ_ _ z=>(nomatch z),λ_ z=>(nomatch z)⟩
  case ci=>subst e;exact⟨λ_ z=>(nomatch z),λ_ _ z=>(nomatch z),λ_ z=>(nomatch z)⟩
  case dl=>subst e;exact⟨λ_ z=>(nomatch z),λ_ _ z=>(nomatch z),λ_ _=>rfl⟩
  all_goals obtain⟨_,_,e⟩:=e;subst e;exact⟨λ_ z=>(nomatch z),λ_ _ z=>(nomatch z),λ_ z=>(nomatch z)⟩
 obtain⟨j,k,l⟩:=i;refine⟨⟨λu d q=>f _ _ q λz=>?_,λu x⟨m,q⟩=>⟨m,f _ _ q λz=>?_⟩⟩,λb d q n=>f _ _ q λz=>?_⟩
 ·rw[z,g]at q;exact j _ (ji q)
 ·rw[z,g]at q;exact k _ _ (ji q)
 ·rw[z,g]at q;exact n (by rw[z,l _ (ji q)])
def bA.set(h:bA P w K a H M Z)(f:cont P w a M Z d=some C)(v:∀b o,H b=some o->b≠Z.G d->H' b=some o)(u:c.G=Z.G)(j:∀r o,cont P w a s c r=some o->(r=d/\H' (Z.G d)=some o)\/(r≠d/\cont P w a M Z r=some o))(seats:∀i l,s.las[i]?=some l->bR K H' (c.iv i) l.ins)(trs:∀i t,s.trs[i]?=some t->aT K H' (c.ar i) (t.arms.map V.str)/\eY K H' t.rule (c.ru i)/\aT K H' (c.sh i) (t.shuts.map V.str))(tabs:∀i l,s.las[i]?=some l->eA K H' (c.tk i)/\(∃m,eX H' (c.tk i) m/\jU s.p l.S (c.ow i) m)/\wc (c6 K H') s.p l.S (c.ow i)/\∀x∈c.tk i,x.2.2≠.ref (c.G .dl))(came:eB K H' (c.G .dl) c.cv s.came):bA P w K a H' s c:=by
 refine⟨λr y o A e B g=>?_,λr o e=>?_,seats,trs,tabs,came⟩
 ·rw[u]at g;rcases j r o e with⟨rfl,_⟩|⟨_,q⟩<;>rcases j y A B with⟨rfl,_⟩|⟨_,k⟩
  ·rfl
  ·exact h.inj _ _ _ _ f k g
  ·exact h.inj _ _ _ _ q f g
  ·exact h.inj _ _ _ _ q k g
 ·rw[u];rcases j r o e with⟨rfl,q⟩|⟨n,q⟩
  ·exact q
  ·exact v _ _ (h.at_ _ _ q) λz=>n (h.inj _ _ _ _ q f z)
def bA.trsI(h:bA P w K a H M Z)(e:Kp H H'):∀i t,M.trs[i]?=some t->aT K H' (Z.ar i) (t.arms.map V.str)/\eY K H' t.rule (Z.ru i)/\aT K H' (Z.sh i) (t.shuts.map V.str):=λi t b=>let⟨h1,h2,h3⟩:=h.trs i t b;⟨e.tq h1,h2.kp e,e.tq h3⟩
def bA.tabsI(h:bA P w K a H M Z)(e:Im (Z.G .dl) H H'):∀i l,M.las[i]?=some l->eA K H' (Z.tk i)/\(∃m,eX H' (Z.tk i) m/\jU M.p l.S (Z.ow i) m)/\wc (c6 K H') M.p l.S (Z.ow i)/\∀x∈Z.tk i,x.2.2≠.ref (Z.G .dl):=λi l b=>let⟨h1,⟨m,h2,h3⟩,h4,h5⟩:=h.tabs i l b;⟨λx d=>jF e.kp (h1 x d),⟨m,h2.im e h5,h3⟩,h4.mono λ_ _ q=>jF e.kp q,h5⟩
def bA.same(h:bA P w K a H M Z)(e:ao H H'):bA P w K a H' M Z:=⟨h.inj,λr o q=>e _ _ (h.at_ r o q),λi l b=>(h.seats i l b).kp (.of e),h.trsI (.of e),h.tabsI (.of e),h.came.im (.of e)⟩
def ik{b g:Type}{d:List b}{i:Nat}{x y:b}(h:d[i]?=some x)(f:b->g)(e:f y=f x)(j:Nat):(d.set i y)[j]?.map f=d[j]?.map f:=by
 rw[Qq]
 by_cases q:i=j
 ·subst q;rw[i_ rfl,i_ (d_.mp h).1,h];exact tl some e
 ·rw[ir q]
def d8{b g:Type}{d:List b}{i:Nat}{x y:b}(h:d[i]?=some x)(f:b->g)(e:f y=f x):(d.set i y).map f=d.map f:=zz λj=>by rw[ig,ig];exact ik h f e j
def o9{b:Type}{d:List b}{i j:Nat}{y z:b}(e:(d.set i y)[j]?=some z):(j=i/\z=y)\/(j≠i/\d[j]?=some z):=by
 rw[Qq]at e
 by_cases q:i=j
 ·rw[i_ q]at e
  split at e
  ·exact .inl ⟨q.symm,(ji e).symm⟩
  ·cases e
 ·rw[ir q]at e;exact .inr ⟨λz=>q z.symm,e⟩
def Bd{i:Nat}{l l':cD}(b:M.las[i]?=some l)(h1:l'.nm=l.nm)(h2:l'.sl=l.sl)(r:Ro):cont P w a {M with las:=M.las.set i l'} Z r=cont P w a M Z r:=by cases r with|ln=>exact tl (λns=>some (HO.dK (jT ns λi=>.ref (Z.G (.lo i))))) (d8 b cD.nm h1)|lo j=>exact ik b _ (by rw[h2]) j|iu j=>exact ik (y:=l') b _ rfl j|tb j=>exact ik (y:=l') b _ rfl j|od j=>exact ik (y:=l') b _ rfl j|td j=>exact ik (y:=l') b _ rfl j|_=>rfl
def HF{i:Nat}{t b:et}(d:M.trs[i]?=some t)(h1:b.nm=t.nm)(r:Ro)(h2:r=.tr i->b.home=t.home/\b.pau=t.pau/\b.clo=t.clo)(h3:r=.ba i->b.bar=t.bar):cont P w a {M with trs:=M.trs.set i b} Z r=cont P w a M Z r:=by
 cases r with|tn=>exact tl (λns=>some (HO.dK (jT ns λi=>.ref (Z.G (.tr i))))) (d8 d et.nm h1)|tr j=>
  by_cases q:j=i
  ·subst q;obtain⟨a1,e,f⟩:=h2 rfl;exact ik d _ (by rw[a1,e,f]) j
  ·show((M.trs.set i b)[j]?).map _=_;rw[oD (λz=>q z.symm)];rfl|ba j=>
  by_cases q:j=i
  ·subst q;exact ik d _ (by rw[h3 rfl]) j
  ·show((M.trs.set i b)[j]?).map _=_;rw[oD (λz=>q z.symm)];rfl|_=>rfl
def bV:∀b o,H b=some o->b≠x->az H x o' b=some o:=λb o e n=>by rw[am n];exact e
def bA.setIns(h:bA P w K a H M Z){i:Nat}{l:cD}{ins':List (Str×Str×Str)}{iv':List (bL×V)}(d:M.las[i]?=some l)(p:bR K H iv' ins'):bA P w K a (az H (Z.G (.iu i)) (.dK iv')) {M with las:=M.las.set i {l with ins:=ins'}} {Z with iv:=λj=>if j=i then iv' else Z.iv j}:=by
 have g:cont P w a M Z (.iu i)=some (.dK (Z.iv i)):=by simp[cont,d]
 have im:=h.imm g (bV (o':=.dK iv'));refine h.set g bV rfl (λr o e=>?_) (λj b e=>?_) (h.trsI im.kp) (λj b e=>?_) (h.came.im im)
 ·rw[Bd (l':={l with ins:=ins'}) d rfl rfl]at e
  by_cases f:r=.iu i
  ·subst f;refine .inl ⟨rfl,?_⟩;rw[O,<-e];simp[cont,d]
  ·refine .inr ⟨f,?_⟩;rw[<-e];cases r with|iu j=>show _=M.las[j]?.map λ_=>HO.dK (if j=i then iv' else Z.iv j);rw[ir λz=>f (by rw[z])];rfl|_=>rfl
 ·rcases o9 e with⟨rfl,rfl⟩|⟨n,q⟩
  ·show bR K _ (if j=j then iv' else Z.iv j) ins';rw[i_ rfl];exact p.kp im.kp
  ·show bR K _ (if j=i then iv' else Z.iv j) b.ins;rw[ir n];exact(h.seats j b q).kp im.kp
 ·rcases o9 e with⟨rfl,rfl⟩|⟨n,q⟩
  ·exact h.tabsI im _ l d
  ·exact h.tabsI im j b q
def bA.setTr(h:bA P w K a H M Z){i:Nat}{t t':et}{r0:Ro}{o':HO}(d:M.trs[i]?=some t)(h1:t'.nm=t.nm)(h2:t'.arms=t.arms)(h3:t'.rule=t.rule)(h4:t'.shuts=t.shuts)(f:(r0=.tr i/\t'.bar=t.bar)\/(r0=.ba i/\t'.home=t.home/\t'.pau=t.pau/\t'.clo=t.clo))(l:cont P w a {M with trs:=M.trs.set i t'} Z r0=some o'):bA P w K a (az H (Z.G r0) o') {M with trs:=M.trs.set i t'} Z:=by
 obtain⟨g,k⟩:∃g,cont P w a M Z r0=some g:=by rcases f with⟨rfl,_⟩|⟨rfl,_⟩<;>exact⟨_,by simp only[cont,d];rfl⟩
 have im:=h.imm k (bV (o':=o'));refine h.set k bV rfl (λr o e=>?_) (λj m e=>(h.seats j m e).kp im.kp) (λj p e=>?_) (h.tabsI im) (h.came.im im)
 ·by_cases b:r=r0
  ·subst b;rw[l]at e;exact .inl ⟨rfl,by rw[O];exact e⟩
  ·refine .inr ⟨b,?_⟩;rw[<-e];refine(HF d h1 r (λz=>?_) λz=>?_).symm
   ·rcases f with⟨q,_⟩|⟨_,q⟩
    ·exact absurd (z.trans q.symm) b
    ·exact q
   ·rcases f with⟨_,q⟩|⟨q,_⟩
    ·exact q
    ·exact absurd (z.trans q.symm) b
 ·rcases o9 e with⟨rfl,rfl⟩|⟨n,q⟩
  ·rw[h2,h3,h4];exact h.trsI im.kp _ t d
  ·exact h.trsI im.kp j p q
def bA.deed(h:bA P w K a H M Z)(d:V):bA P w K a (az H (Z.G .dl) (.lst (Z.ds++[d]))) M {Z with ds:=Z.ds++[d]}:=by
 have f:cont P w a M Z .dl=some (.lst Z.ds):=rfl;have im:=h.imm f (bV (o':=.lst (Z.ds++[d])));refine h.set f bV rfl (λr o e=>?_) (λj g e=>(h.seats j g e).kp im.kp) (h.trsI im.kp) (h.tabsI im) (h.came.im im)
 by_cases b:r=.dl
 ·subst b;exact .inl ⟨rfl,by rw[O];exact e⟩
 ·refine .inr ⟨b,?_⟩;rw[<-e];cases r with|dl=>exact absurd rfl b|_=>rfl
def bA.setCame(h:bA P w K a H M Z)(hc:eB K H (Z.G .dl) b d):bA P w K a (az H (Z.G .ci) (.dK b)) {M with came:=d} {Z with cv:=b}:=by
 have g:cont P w a M Z .ci=some (.dK Z.cv):=rfl;have im:=h.imm g (bV (o':=.dK b));refine h.set g bV rfl (λr o e=>?_) (λj i e=>(h.seats j i e).kp im.kp) (h.trsI im.kp) (h.tabsI im) (hc.im im)
 by_cases f:r=.ci
 ·subst f;exact .inl ⟨rfl,by rw[O];exact e⟩
 ·refine .inr ⟨f,?_⟩;rw[<-e];cases r with|ci=>exact absurd rfl f|_=>rfl
end
theorem yF:∀(ns:RI)(x:Str)(f:Nat->V),jT (ns++[x]) f=jT ns f++[(.inr x,f ns.length)]|[],_,_=>rfl|n::r,x,f=>by show(Sum.inr n,f 0)::jT (r++[x]) _=(Sum.inr n,f 0)::(jT r _++_);rw[yF r x];rfl
theorem qU:∀{ns:RI}{f g:Nat->V},(∀i,i<ns.length->f i=g i)->jT ns f=jT ns g|[],_,_,_=>rfl|n::r,f,g,h=>by show(Sum.inr n,f 0)::jT r _=(Sum.inr n,g 0)::jT r _;rw[h 0 (by simp),qU (ns:=r) (f:=λi=>f (i+1)) (g:=λi=>g (i+1)) λi hi=>h (i+1) (by simpa using hi)]
theorem jc:∀(ns:RI)(f:Nat->V),(jT ns f).length=ns.length|[],_=>rfl|n::r,f=>by rw[jT,oi,oi,jc r]
theorem t8:∀{ns:RI}{f:Nat->V}{i:Nat}{x:Str},ns.Nodup->ns[i]?=some x->aW (jT ns f) (.inr x)=some (f i)
 |[],_,i,_,_,h=>by simp at h|n::r,f,0,x,_,h=>by
  have e:n=x:=by simpa using h
  exact cn (by rw[e])|n::r,f,i+1,x,hn,h=>by
  have h:r[i]?=some x:=by simpa using h
  rw[Ry]at hn;have ne:n≠x:=λz=>hn.1 (by rw[z];exact h_ h);show aW ((Sum.inr n,f 0)::jT r _) _=_;rw[bH λz=>ne (ro z)];exact t8 hn.2 h
theorem mE:∀{ns:RI}{f:Nat->V}{x:Str},x∉ns->aW (jT ns f) (.inr x)=none|[],_,_,_=>rfl|n::r,f,x,h=>by show aW ((Sum.inr n,f 0)::jT r _) _=_;rw[bH λz=>h (by rw[ro z];exact l_)];exact mE λz=>h (kw _ z)
theorem yE:∀{ns:RI}{f:Nat->V}{i:Nat},(jT ns f)[i]?=ns[i]?.map λx=>(.inr x,f i)|[],_,i=>by simp[jT]|n::r,f,0=>rfl|n::r,f,i+1=>by show(jT r λi=>f (i+1))[i]?=_;rw[yE];simp
section
variable{P:RH}{w:World}{K:RC}{a:jl}{H c:Hp}{M:bG}{Z:ZS}
def bA.tab(h:bA P w K a H M Z)(b:M.las[i]?=some l):∃m,eF P w K a.bN H (Z.G (.tb i)) (Z.G (.od i)) (Z.G (.td i)) M.p (Z.ow i) (Z.tk i) m/\jU M.p l.S (Z.ow i) m:=by obtain⟨h1,⟨m,h2,h3⟩,_⟩:=h.tabs i l b;exact⟨m,⟨⟨_,h.at_ (.tb i) _ (by simp only[cont,b];rfl)⟩,h.at_ (.od i) _ (by simp only[cont,b];rfl),h.at_ (.td i) _ (by simp only[cont,b];rfl),h1,h2⟩,h3⟩
def bA.told(h:bA P w K a H M Z)(s:M.las[i]?=some l)(o:mM (Z.G (.od i)) (Z.G (.td i)) H c)(C:eF P w K a.bN c (Z.G (.tb i)) (Z.G (.od i)) (Z.G (.td i)) M.p f d I)(L:jU M.p t f I)(N:wc (c6 K H) M.p t f)(Q:fe H (Z.tk i) d):bA P w K a c {M with las:=M.las.set i {l with S:=t}} {Z with ow:=λj=>if j=i then f else Z.ow j,tk:=λj=>if j=i then d else Z.tk j}:=by
 obtain⟨m,J,_⟩:=h.tab s;have im:Im (Z.G .dl) H c:=by
  have g:∀b ob,H b=some ob->(∀D,ob≠.dK D)->(∀φ,ob≠.ext φ)->c b=some ob:=λb ob e h1 h2=>o b ob e (λz=>by rw[z,J.own]at e;cases e;exact h1 _ rfl) (λz=>by rw[z,J.tak]at e;cases e;exact h2 _ rfl)
  exact⟨⟨λu O e=>g _ _ e (λ_ z=>(nomatch z)) (λ_ z=>(nomatch z)),λu x⟨E,e⟩=>⟨E,g _ _ e (λ_ z=>(nomatch z)) (λ_ z=>(nomatch z))⟩⟩,λb O e _=>g _ _ e (λ_ z=>(nomatch z)) (λ_ z=>(nomatch z))⟩
 have v:∀r ob,cont P w a {M with las:=M.las.set i {l with S:=t}} {Z with ow:=λj=>if j=i then f else Z.ow j,tk:=λj=>if j=i then d else Z.tk j} r=some ob->(r=.od i/\ob=.dK f)\/(r=.td i/\ob=dM P w (Z.G (.td i)) d)\/(r≠.od i/\r≠.td i/\cont P w a M Z r=some ob):=λr ob e=>by
  rw[Bd (l':={l with S:=t}) s rfl rfl]at e;cases r with|od j=>
   by_cases q:j=i
   ·subst q;have e:(M.las[j]?.map λ_=>HO.dK (if j=j then f else Z.ow j))=some ob:=e;rw[s,i_ rfl]at e;exact .inl ⟨rfl,(ji e).symm⟩
   ·have e:(M.las[j]?.map λ_=>HO.dK (if j=i then f else Z.ow j))=some ob:=e;rw[ir q]at e;exact .inr (.inr ⟨λz=>q (by injection z),λz=>(nomatch z),e⟩)|td j=>
   by_cases q:j=i
   ·subst q;have e:(M.las[j]?.map λ_=>dM P w (Z.G (.td j)) (if j=j then d else Z.tk j))=some ob:=e;rw[s,i_ rfl]at e;exact .inr (.inl ⟨rfl,(ji e).symm⟩)
   ·have e:(M.las[j]?.map λ_=>dM P w (Z.G (.td j)) (if j=i then d else Z.tk j))=some ob:=e;rw[ir q]at e;exact .inr (.inr ⟨λz=>(nomatch z),λz=>q (by injection z),e⟩)|_=>exact .inr (.inr ⟨λz=>(nomatch z),λz=>(nomatch z),e⟩)
 have A:cont P w a M Z (.od i)=some (.dK (Z.ow i)):=by simp only[cont,s];rfl
 have B:cont P w a M Z (.td i)=some (dM P w (Z.G (.td i)) (Z.tk i)):=by simp only[cont,s];rfl
 have live:∀r ob,cont P w a {M with las:=M.las.set i {l with S:=t}} {Z with ow:=λj=>if j=i then f else Z.ow j,tk:=λj=>if j=i then d else Z.tk j} r=some ob->∃E,cont P w a M Z r=some E:=λr ob e=>by
  rcases v r ob e with⟨rfl,_⟩|⟨rfl,_⟩|⟨_,_,q⟩
  ·exact⟨_,A⟩
  ·exact⟨_,B⟩
  ·exact⟨_,q⟩
 refine⟨λr R ob F e T g=>?_,λr ob e=>?_,λj k e=>?_,h.trsI im.kp,λj k e=>?_,h.came.im im⟩
 ·obtain⟨_,q⟩:=live r ob e;obtain⟨_,U⟩:=live R F T;exact h.inj _ _ _ _ q U g
 ·rcases v r ob e with⟨rfl,rfl⟩|⟨rfl,rfl⟩|⟨n1,n2,q⟩
  ·exact C.own
  ·exact C.tak
  ·exact o _ _ (h.at_ _ _ q) (λz=>n1 (h.inj _ _ _ _ q A z)) (λz=>n2 (h.inj _ _ _ _ q B z))
 ·rcases o9 e with⟨rfl,rfl⟩|⟨n,q⟩
  ·exact(h.seats _ l s).kp im.kp
  ·exact(h.seats j k q).kp im.kp
 ·rcases o9 e with⟨rfl,rfl⟩|⟨n,q⟩
  ·show eA K c (if j=j then d else Z.tk j)/\(∃m,eX c (if j=j then d else Z.tk j) m/\jU M.p t (if j=j then f else Z.ow j) m)/\wc (c6 K c) M.p t (if j=j then f else Z.ow j)/\∀x∈(if j=j then d else Z.tk j),x.2.2≠.ref (Z.G .dl);rw[i_ rfl,i_ rfl];refine⟨C.keys,⟨I,C.lsts,L⟩,N.mono λ_ _ q=>jF im.kp q,λx V z=>?_⟩;rcases Q x V with⟨y,W,e⟩|⟨X,e,hn⟩
   ·exact(h.tabs _ l s).2.2.2 y W (e.trans z)
   ·rw[e]at z;cases z;rw[h.at_ .dl _ rfl]at hn;cases hn
  ·show eA K c (if j=i then d else Z.tk j)/\(∃m,eX c (if j=i then d else Z.tk j) m/\jU M.p k.S (if j=i then f else Z.ow j) m)/\wc (c6 K c) M.p k.S (if j=i then f else Z.ow j)/\∀x∈(if j=i then d else Z.tk j),x.2.2≠.ref (Z.G .dl);rw[ir n,ir n];exact h.tabsI im j k q
end
def xf(b c:Nat):Ro->Prop|.lo i=>i<b|.iu i=>i<b|.tb i=>i<b|.od i=>i<b|.td i=>i<b|.tr i=>i<c|.ba i=>i<c|_=>True
def rW(e:cont P w a M Z r=some o):xf M.las.length M.trs.length r:=by cases r<;>first|exact trivial|(obtain⟨y,h1,_⟩:=Option.map_eq_some_iff.mp e;exact(d_.mp h1).1)
def m8(P:RH)(w:World)(a:jl)(Z:ZS)(h:xf M.las.length M.trs.length r):∃o,cont P w a M Z r=some o:=by cases r<;>first|exact⟨_,rfl⟩|(have h:_<M.las.length:=h;exact⟨_,by simp only[cont,hY h];rfl⟩)|(have h:_<M.trs.length:=h;exact⟨_,by simp only[cont,hY h];rfl⟩)
def ZS.newL(Z:ZS)(n:Nat)(lo d t e f b c:Addr):ZS:={Z with
 G:=λr=>if r=.lo n then lo else if r=.iu n then d else if r=.tb n then t else if r=.od n then e else if r=.td n then f else Z.G r
 dx:=λr=>if r=.lo n then b else if r=.tb n then c else Z.dx r
 iv:=λj=>if j=n then[]else Z.iv j
 ow:=λj=>if j=n then[]else Z.ow j
 tk:=λj=>if j=n then[]else Z.tk j}
def ZS.newT(Z:ZS)(n:Nat)(t b dx ar:Addr)(ru:V)(sh:Addr):ZS:={Z with
 G:=λr=>if r=.tr n then t else if r=.ba n then b else Z.G r
 dx:=λr=>if r=.tr n then dx else Z.dx r
 ar:=λj=>if j=n then ar else Z.ar j
 ru:=λj=>if j=n then ru else Z.ru j
 sh:=λj=>if j=n then sh else Z.sh j}
def o7(e:(b++[x])[j]?=some y):(j=b.length/\y=x)\/(j≠b.length/\b[j]?=some y):=by
 rcases Nat.lt_trichotomy j b.length with q|q|q
 ·rw[q_ q]at e;exact .inr ⟨k4 q,e⟩
 ·subst q;rw[List.getElem?_concat_length]at e;exact .inl ⟨rfl,(ji e).symm⟩
 ·rw[o0 (by simp;exact q)]at e;cases e
def jq(e:(b++[x])[j]?.map f=some o):(j=b.length/\o=f x)\/(j≠b.length/\b[j]?.map f=some o):=by
 obtain⟨y,h1,h2⟩:=Option.map_eq_some_iff.mp e;rcases o7 h1 with⟨q,rfl⟩|⟨q,z⟩
 ·exact .inl ⟨q,h2.symm⟩
 ·exact .inr ⟨q,by rw[z];exact tl some h2⟩
section
variable{P:RH}{w:World}{K:RC}{a:jl}{H H':Hp}{M:bG}{Z:ZS}
theorem bA.newL(h:bA P w K a H M Z)(h1:H lo=none)(h2:H iu=none)(h3:H t=none)(h4:H od=none)(h5:H td=none)(D:od≠iu)(l:∀b o,H b=some o->b≠Z.G .ln->H' b=some o)(Q:H' (Z.G .ln)=some (.dK (jT (M.las.map cD.nm) (λi=>.ref (Z.G (.lo i)))++[(.inr nm,.ref lo)])))(R:H' lo=some (.ins a.eQ c [("slope",.int sl),("table",.ref t),("inside",.ref iu)]))(T:eF P w K a.bN H' t od td M.p [] [] [])(E:lo≠t)(W:H' iu=some (.dK [])):∃s,s.G .hh=Z.G .hh/\s.G .dl=Z.G .dl/\s.ds=Z.ds/\(∀j,s.tk j=(if j=M.las.length then[]else Z.tk j)/\s.ow j=(if j=M.las.length then[]else Z.ow j))/\s.cv=Z.cv/\bA P w K a H' {M with las:=M.las++[⟨nm,sl,AS.new,[]⟩]} s/\∀r,xf (M.las.length+1) M.trs.length r->H (s.G r)=none\/(s.G r=Z.G r/\xf M.las.length M.trs.length r):=by
 obtain⟨d,O⟩:=T.ins;have im:=h.imm (r:=.ln) rfl l;have F:(M.las.map cD.nm).length=M.las.length:=c_ ..;have u:∀r o,cont P w a {M with las:=M.las++[⟨nm,sl,AS.new,[]⟩]} (Z.newL M.las.length lo iu t od td c d) r=some o->(H' ((Z.newL M.las.length lo iu t od td c d).G r)=some o/\(r=.lo M.las.length\/r=.iu M.las.length\/r=.tb M.las.length\/r=.od M.las.length\/r=.td M.las.length))\/((Z.newL M.las.length lo iu t od td c d).G r=Z.G r/\H' (Z.G r)=some o/\∃U,cont P w a M Z r=some U):=λr o e=>by
  cases r with|hh=>exact .inr ⟨rfl,l _ _ (h.at_ .hh _ e) λz=>(nomatch h.inj .hh .ln _ _ rfl rfl z),_,e⟩|tn=>exact .inr ⟨rfl,l _ _ (h.at_ .tn _ e) λz=>(nomatch h.inj .tn .ln _ _ rfl rfl z),_,e⟩|ci=>exact .inr ⟨rfl,l _ _ (h.at_ .ci _ e) λz=>(nomatch h.inj .ci .ln _ _ rfl rfl z),_,e⟩|dl=>exact .inr ⟨rfl,l _ _ (h.at_ .dl _ e) λz=>(nomatch h.inj .dl .ln _ _ rfl rfl z),_,e⟩|tr j=>exact .inr ⟨rfl,l _ _ (h.at_ (.tr j) _ e) λz=>(nomatch h.inj (.tr j) .ln _ _ e rfl z),_,e⟩|ba j=>exact .inr ⟨rfl,l _ _ (h.at_ (.ba j) _ e) λz=>(nomatch h.inj (.ba j) .ln _ _ e rfl z),_,e⟩|ln=>refine .inr ⟨rfl,?_,_,rfl⟩;rw[Q,<-e];show _=some (HO.dK (jT ((M.las++[(⟨nm,sl,AS.new,[]⟩:cD)]).map cD.nm) λi=>V.ref ((Z.newL M.las.length lo iu t od td c d).G (.lo i))));rw[il,Q1,yF,F];have e1:(Z.newL M.las.length lo iu t od td c d).G (.lo M.las.length)=lo:=i_ rfl;rw[e1,qU (f:=λi=>V.ref ((Z.newL M.las.length lo iu t od td c d).G (.lo i))) (g:=λi=>V.ref (Z.G (.lo i)))];intro i hi;rw[F]at hi;have n:∀x:Nat->Ro,(∀i j,x i=x j->i=j)->x i≠x M.las.length:=λx I z=>k4 hi (I _ _ z);show V.ref (if Ro.lo i=.lo M.las.length then lo else _)=_;rw[ir (n Ro.lo λ_ _ z=>by injection z)];rfl|lo j=>
   rcases jq e with⟨rfl,rfl⟩|⟨q,e⟩
   ·refine .inl ⟨?_,.inl rfl⟩;have B:(Z.newL M.las.length lo iu t od td c d).G (.lo M.las.length)=lo:=i_ rfl;have X:(Z.newL M.las.length lo iu t od td c d).G (.tb M.las.length)=t:=by simp[ZS.newL]
    have y:(Z.newL M.las.length lo iu t od td c d).G (.iu M.las.length)=iu:=by simp[ZS.newL]
    have A:(Z.newL M.las.length lo iu t od td c d).dx (.lo M.las.length)=c:=i_ rfl;rw[B,X,y,A];exact R
   ·have e:cont P w a M Z (.lo j)=some o:=by rw[<-e];simp[cont,ZS.newL,q]
    exact .inr ⟨by simp[ZS.newL,q],l _ _ (h.at_ (.lo j) _ e) λz=>(nomatch h.inj (.lo j) .ln _ _ e rfl z),_,e⟩|iu j=>
   rcases jq e with⟨rfl,rfl⟩|⟨q,e⟩
   ·refine .inl ⟨?_,.inr (.inl rfl)⟩;have y:(Z.newL M.las.length lo iu t od td c d).G (.iu M.las.length)=iu:=by simp[ZS.newL]
    have A:(Z.newL M.las.length lo iu t od td c d).iv M.las.length=[]:=i_ rfl;rw[y,A];exact W
   ·have e:cont P w a M Z (.iu j)=some o:=by rw[<-e];simp[cont,ZS.newL,q]
    exact .inr ⟨by simp[ZS.newL,q],l _ _ (h.at_ (.iu j) _ e) λz=>(nomatch h.inj (.iu j) .ln _ _ e rfl z),_,e⟩|tb j=>
   rcases jq e with⟨rfl,rfl⟩|⟨q,e⟩
   ·refine .inl ⟨?_,.inr (.inr (.inl rfl))⟩;have X:(Z.newL M.las.length lo iu t od td c d).G (.tb M.las.length)=t:=by simp[ZS.newL]
    have y:(Z.newL M.las.length lo iu t od td c d).G (.od M.las.length)=od:=by simp[ZS.newL]
    have g5:(Z.newL M.las.length lo iu t od td c d).G (.td M.las.length)=td:=by simp[ZS.newL]
    have A:(Z.newL M.las.length lo iu t od td c d).dx (.tb M.las.length)=d:=by simp[ZS.newL]
    rw[X,y,A,g5];exact O
   ·have e:cont P w a M Z (.tb j)=some o:=by rw[<-e];simp[cont,ZS.newL,q]
    exact .inr ⟨by simp[ZS.newL,q],l _ _ (h.at_ (.tb j) _ e) λz=>(nomatch h.inj (.tb j) .ln _ _ e rfl z),_,e⟩|od j=>
   rcases jq e with⟨rfl,rfl⟩|⟨q,e⟩
   ·refine .inl ⟨?_,.inr (.inr (.inr (.inl rfl)))⟩;have y:(Z.newL M.las.length lo iu t od td c d).G (.od M.las.length)=od:=by simp[ZS.newL]
    have A:(Z.newL M.las.length lo iu t od td c d).ow M.las.length=[]:=i_ rfl;rw[y,A];exact T.own
   ·have e:cont P w a M Z (.od j)=some o:=by rw[<-e];simp[cont,ZS.newL,q]
    exact .inr ⟨by simp[ZS.newL,q],l _ _ (h.at_ (.od j) _ e) λz=>(nomatch h.inj (.od j) .ln _ _ e rfl z),_,e⟩|td j=>
   rcases jq e with⟨rfl,rfl⟩|⟨q,e⟩
   ·refine .inl ⟨?_,.inr (.inr (.inr (.inr rfl)))⟩;have y:(Z.newL M.las.length lo iu t od td c d).G (.td M.las.length)=td:=by simp[ZS.newL]
    have A:(Z.newL M.las.length lo iu t od td c d).tk M.las.length=[]:=i_ rfl;rw[y,A];exact T.tak
   ·have e:cont P w a M Z (.td j)=some o:=by rw[<-e];simp[cont,ZS.newL,q]
    exact .inr ⟨by simp[ZS.newL,q],l _ _ (h.at_ (.td j) _ e) λz=>(nomatch h.inj (.td j) .ln _ _ e rfl z),_,e⟩
 have gs:∀r,(r=.lo M.las.length\/r=.iu M.las.length\/r=.tb M.las.length\/r=.od M.las.length\/r=.td M.las.length)->H ((Z.newL M.las.length lo iu t od td c d).G r)=none:=λr Y=>by rcases Y with rfl|rfl|rfl|rfl|rfl<;>simp only[ZS.newL]<;>simp[h1,h2,h3,h4,h5]
 refine⟨Z.newL M.las.length lo iu t od td c d,rfl,rfl,rfl,λj=>⟨rfl,rfl⟩,rfl,⟨λr r' o U e e' g=>?_,λr o e=>?_,λj C e=>?_,h.trsI im.kp,λj C e=>?_,h.came.im im⟩,λr Y=>?_⟩
 ·rcases u r o e with⟨q,n⟩|⟨B,q,x,J⟩<;>rcases u r' U e' with⟨q',n'⟩|⟨L,q',x',N⟩
  ·rw[g,q']at q;have q:=ji q;rcases n with rfl|rfl|rfl|rfl|rfl<;>rcases n' with rfl|rfl|rfl|rfl|rfl<;>first|rfl|(exfalso;simp[ZS.newL]at g;first|exact E g|exact E g.symm|exact D g|exact D g.symm|(simp[cont]at e e';rw[<-e,<-e']at q;cases q))
  ·rw[L]at g;have:=h.at_ _ _ N;rw[<-g,gs r n]at this;cases this
  ·rw[B]at g;have:=h.at_ _ _ J;rw[g,gs r' n']at this;cases this
  ·rw[B,L]at g;exact h.inj _ _ _ _ J N g
 ·rcases u r o e with⟨q,n⟩|⟨B,q,x,J⟩
  ·exact q
  ·rw[B];exact q
 ·rcases o7 e with⟨rfl,rfl⟩|⟨n,q⟩
  ·show bR K H' (if M.las.length=M.las.length then[]else _) [];rw[i_ rfl];exact .nil
  ·show bR K H' (if j=M.las.length then[]else Z.iv j) C.ins;rw[ir n];exact(h.seats j C q).kp im.kp
 ·rcases o7 e with⟨rfl,rfl⟩|⟨n,q⟩
  ·show eA K H' (if M.las.length=M.las.length then[]else _)/\(∃m,eX H' (if M.las.length=M.las.length then[]else _) m/\jU M.p AS.new (if M.las.length=M.las.length then[]else _) m)/\wc (c6 K H') M.p AS.new (if M.las.length=M.las.length then[]else _)/\∀x∈(if M.las.length=M.las.length then[]else Z.tk _),x.2.2≠.ref (Z.G .dl);rw[i_ rfl,i_ rfl];exact⟨λx I=>(nomatch I),⟨[],.nil,λk=>rfl,λp _ _=>rfl⟩,λp v _ _ z=>(nomatch z),λx I=>(nomatch I)⟩
  ·show eA K H' (if j=M.las.length then[]else Z.tk j)/\(∃m,eX H' (if j=M.las.length then[]else Z.tk j) m/\jU M.p C.S (if j=M.las.length then[]else Z.ow j) m)/\wc (c6 K H') M.p C.S (if j=M.las.length then[]else Z.ow j)/\∀x∈(if j=M.las.length then[]else Z.tk j),x.2.2≠.ref (Z.G .dl);rw[ir n,ir n];exact h.tabsI im j C q
 ·obtain⟨o,e⟩:=m8 P w a (M:={M with las:=M.las++[⟨nm,sl,AS.new,[]⟩]}) (Z.newL M.las.length lo iu t od td c d) (r:=r) (by simpa using Y);rcases u r o e with⟨_,n⟩|⟨B,_,x,J⟩
  ·exact .inl (gs r n)
  ·exact .inr ⟨B,rW J⟩
theorem bA.newT(h:bA P w K a H M Z){nm home:Str}{arms shuts:RI}{rule:Ru}{t ba dx ar sh:Addr}{ru:V}(h1:H t=none)(h2:H ba=none)(c:∀b o,H b=some o->b≠Z.G .tn->H' b=some o)(v:H' (Z.G .tn)=some (.dK (jT (M.trs.map et.nm) (λi=>.ref (Z.G (.tr i)))++[(.inr nm,.ref t)])))(I:H' t=some (.ins a.fq dx [("home",.str home),("arms",.ref ar),("rule",ru),("shuts",.ref sh),("paused",.bl false),("closed",.bl false),("barred",.ref ba)]))(J:H' ba=some (.dK []))(L:aT K H ar (arms.map V.str))(N:eY K H rule ru)(Q:aT K H sh (shuts.map V.str)):∃d,d.G .hh=Z.G .hh/\d.G .dl=Z.G .dl/\d.ds=Z.ds/\d.tk=Z.tk/\d.ow=Z.ow/\d.cv=Z.cv/\bA P w K a H' {M with trs:=M.trs++[⟨nm,home,arms,rule,shuts,false,false,[]⟩]} d/\∀r,xf M.las.length (M.trs.length+1) r->H (d.G r)=none\/(d.G r=Z.G r/\xf M.las.length M.trs.length r):=by
 have im:=h.imm (r:=.tn) rfl c;have m:(M.trs.map et.nm).length=M.trs.length:=c_ ..;have k:∀r o,cont P w a {M with trs:=M.trs++[⟨nm,home,arms,rule,shuts,false,false,[]⟩]} (Z.newT M.trs.length t ba dx ar ru sh) r=some o->(H' ((Z.newT M.trs.length t ba dx ar ru sh).G r)=some o/\(r=.tr M.trs.length\/r=.ba M.trs.length))\/((Z.newT M.trs.length t ba dx ar ru sh).G r=Z.G r/\H' (Z.G r)=some o/\∃y,cont P w a M Z r=some y):=λr o e=>by
  cases r with|tn=>refine .inr ⟨rfl,?_,_,rfl⟩;rw[v,<-e];show _=some (HO.dK (jT ((M.trs++[(⟨nm,home,arms,rule,shuts,false,false,[]⟩:et)]).map et.nm) λi=>V.ref ((Z.newT M.trs.length t ba dx ar ru sh).G (.tr i))));rw[il,Q1,yF,m];have O:(Z.newT M.trs.length t ba dx ar ru sh).G (.tr M.trs.length)=t:=i_ rfl;rw[O,qU (f:=λi=>V.ref ((Z.newT M.trs.length t ba dx ar ru sh).G (.tr i))) (g:=λi=>V.ref (Z.G (.tr i)))];intro i hi;rw[m]at hi;show V.ref (if Ro.tr i=.tr M.trs.length then t else _)=_;rw[ir λz=>k4 hi (by injection z)];rfl|tr j=>
   rcases jq e with⟨rfl,rfl⟩|⟨q,e⟩
   ·refine .inl ⟨?_,.inl rfl⟩;have l:(Z.newT M.trs.length t ba dx ar ru sh).G (.tr M.trs.length)=t:=i_ rfl;have A:(Z.newT M.trs.length t ba dx ar ru sh).G (.ba M.trs.length)=ba:=by simp[ZS.newT]
    have R:(Z.newT M.trs.length t ba dx ar ru sh).dx (.tr M.trs.length)=dx:=i_ rfl;have S:(Z.newT M.trs.length t ba dx ar ru sh).ar M.trs.length=ar:=i_ rfl;have T:(Z.newT M.trs.length t ba dx ar ru sh).ru M.trs.length=ru:=i_ rfl;have U:(Z.newT M.trs.length t ba dx ar ru sh).sh M.trs.length=sh:=i_ rfl;rw[l,A,R,S,T,U];exact I
   ·have e:cont P w a M Z (.tr j)=some o:=by rw[<-e];simp[cont,ZS.newT,q]
    exact .inr ⟨by simp[ZS.newT,q],c _ _ (h.at_ (.tr j) _ e) λz=>(nomatch h.inj (.tr j) .tn _ _ e rfl z),_,e⟩|ba j=>
   rcases jq e with⟨rfl,rfl⟩|⟨q,e⟩
   ·refine .inl ⟨?_,.inr rfl⟩;have A:(Z.newT M.trs.length t ba dx ar ru sh).G (.ba M.trs.length)=ba:=by simp[ZS.newT]
    rw[A];exact J
   ·have e:cont P w a M Z (.ba j)=some o:=by rw[<-e];rfl
    exact .inr ⟨by simp[ZS.newT,q],c _ _ (h.at_ (.ba j) _ e) λz=>(nomatch h.inj (.ba j) .tn _ _ e rfl z),_,e⟩|hh=>exact .inr ⟨rfl,c _ _ (h.at_ .hh _ e) λz=>(nomatch h.inj .hh .tn _ _ rfl rfl z),_,e⟩|ln=>exact .inr ⟨rfl,c _ _ (h.at_ .ln _ e) λz=>(nomatch h.inj .ln .tn _ _ rfl rfl z),_,e⟩|ci=>exact .inr ⟨rfl,c _ _ (h.at_ .ci _ e) λz=>(nomatch h.inj .ci .tn _ _ rfl rfl z),_,e⟩|dl=>exact .inr ⟨rfl,c _ _ (h.at_ .dl _ e) λz=>(nomatch h.inj .dl .tn _ _ rfl rfl z),_,e⟩|lo j=>exact .inr ⟨rfl,c _ _ (h.at_ (.lo j) _ e) λz=>(nomatch h.inj (.lo j) .tn _ _ e rfl z),_,e⟩|iu j=>exact .inr ⟨rfl,c _ _ (h.at_ (.iu j) _ e) λz=>(nomatch h.inj (.iu j) .tn _ _ e rfl z),_,e⟩|tb j=>exact .inr ⟨rfl,c _ _ (h.at_ (.tb j) _ e) λz=>(nomatch h.inj (.tb j) .tn _ _ e rfl z),_,e⟩|od j=>exact .inr ⟨rfl,c _ _ (h.at_ (.od j) _ e) λz=>(nomatch h.inj (.od j) .tn _ _ e rfl z),_,e⟩|td j=>exact .inr ⟨rfl,c _ _ (h.at_ (.td j) _ e) λz=>(nomatch h.inj (.td j) .tn _ _ e rfl z),_,e⟩
 have gs:∀r,(r=.tr M.trs.length\/r=.ba M.trs.length)->H ((Z.newT M.trs.length t ba dx ar ru sh).G r)=none:=λr B=>by rcases B with rfl|rfl<;>simp only[ZS.newT]<;>simp[h1,h2]
 refine⟨Z.newT M.trs.length t ba dx ar ru sh,rfl,rfl,rfl,rfl,rfl,rfl,⟨λr D o y e C g=>?_,λr o e=>?_,λj W e=>(h.seats j W e).kp im.kp,λj X e=>?_,h.tabsI im,h.came.im im⟩,λr B=>?_⟩
 ·rcases k r o e with⟨q,n⟩|⟨l,q,x,p⟩<;>rcases k D y C with⟨E,F⟩|⟨s,E,Y,u⟩
  ·rw[g,E]at q;have q:=ji q;rcases n with rfl|rfl<;>rcases F with rfl|rfl<;>first|rfl|(exfalso;simp[cont]at e C;rw[<-e,<-C]at q;cases q)
  ·rw[s]at g;have:=h.at_ _ _ u;rw[<-g,gs r n]at this;cases this
  ·rw[l]at g;have:=h.at_ _ _ p;rw[g,gs D F]at this;cases this
  ·rw[l,s]at g;exact h.inj _ _ _ _ p u g
 ·rcases k r o e with⟨q,n⟩|⟨l,q,x,p⟩
  ·exact q
  ·rw[l];exact q
 ·rcases o7 e with⟨rfl,rfl⟩|⟨n,q⟩
  ·show aT K H' (if M.trs.length=M.trs.length then ar else _) (arms.map V.str)/\eY K H' rule (if M.trs.length=M.trs.length then ru else _)/\aT K H' (if M.trs.length=M.trs.length then sh else _) (shuts.map V.str);rw[i_ rfl,i_ rfl,i_ rfl];exact⟨im.kp.tq L,N.kp im.kp,im.kp.tq Q⟩
  ·show aT K H' (if j=M.trs.length then ar else Z.ar j) _/\eY K H' _ (if j=M.trs.length then ru else Z.ru j)/\aT K H' (if j=M.trs.length then sh else Z.sh j) _;rw[ir n,ir n,ir n];exact h.trsI im.kp j X q
 ·obtain⟨o,e⟩:=m8 P w a (M:={M with trs:=M.trs++[⟨nm,home,arms,rule,shuts,false,false,[]⟩]}) (Z.newT M.trs.length t ba dx ar ru sh) (r:=r) (by simpa using B);rcases k r o e with⟨_,n⟩|⟨l,_,x,p⟩
  ·exact .inl (gs r n)
  ·exact .inr ⟨l,rW p⟩
end
def gB(M:bG)(Z:ZS)(b:Addr):Prop:=(∃r,xf M.las.length M.trs.length r/\b=Z.G r)\/(∃i,i<M.las.length/\∃x∈Z.tk i,x.2.2=.ref b)\/∃x∈Z.cv,x.2=.ref b
def eX.outs(n:∀x∈tk,∀l b,x.2.2=.ref l->H l=some (.lst b)->H' l=some (.lst b))(h:eX H tk m):eX H' tk m:=Paired.mapM h λx c _ q=>⟨q.1,q.2.1,q.2.2.imp λ_ q=>⟨q.1,n x c _ _ q.1 q.2⟩⟩
def eB.outs(e:Kp H H')(n:∀x∈cv,∀l b,x.2=.ref l->H l=some (.lst b)->H' l=some (.lst b))(h:eB K H dl cv cm):eB K H' dl cv cm:=Paired.mapM h λx c _ q=>⟨q.1,q.2.imp λ_ q=>q.imp λ_ q=>⟨q.1,q.2.1,n x c _ _ q.1 q.2.2.1,q.2.2.2.kp e⟩⟩
def bA.out(h:bA P w K a H M Z)(n:¬gB M Z o)(kp:Kp H H')(f:∀b ob,H b=some ob->b≠o->H' b=some ob):bA P w K a H' M Z:=⟨h.inj,λr ob e=>f _ _ (h.at_ r ob e) λz=>n (.inl ⟨r,rW e,z.symm⟩),λi l d=>(h.seats i l d).kp kp,h.trsI kp,λi l d=>let⟨h1,⟨m,h2,h3⟩,h4,h5⟩:=h.tabs i l d;⟨λx c=>jF kp (h1 x c),⟨m,h2.outs λx c l k g j=>f _ _ j λz=>n (.inr (.inl ⟨i,(d_.mp d).1,x,c,by rw[g,z]⟩)),h3⟩,h4.mono λ_ _ q=>jF kp q,h5⟩,h.came.outs kp λx c l k g j=>f _ _ j λz=>n (.inr (.inr ⟨x,c,by rw[g,z]⟩))⟩
def mD{a b:Addr}{o:HO}(h:az H a o b=none):H b=none:=by
 by_cases e:b=a
 ·rw[e,O]at h;cases h
 ·rw[am e]at h;exact h
structure fH(H:Hp)(M:bG)(Z:ZS)(H':Hp)(M':bG)(Z':ZS):Prop where
 hh:Z'.G .hh=Z.G .hh
 fr:∀b o,H b=some o->¬gB M Z b->H' b=some o
 fp:∀b,gB M' Z' b->gB M Z b\/H b=none
 dm:∀b,H' b=none->H b=none
 dd:Z'.G .dl=Z.G .dl
section
variable{H j g p:Hp}{M M1 M2 c:bG}{Z d f a:ZS}
def fH.of(s:ao H p):fH H M Z p M Z:=⟨rfl,λb o h _=>s b o h,λ_ h=>.inl h,λ_ h=>s.free h,rfl⟩
theorem fH.trans(s:fH H M Z j M1 d)(t:fH j M1 d g M2 f):fH H M Z g M2 f:=⟨t.hh.trans s.hh,λb o h n=>t.fr b o (s.fr b o h n) λq=>(s.fp b q).elim n λz=>(by rw[h]at z;cases z),λb q=>(t.fp b q).elim (s.fp b) λz=>.inr (s.dm b z),λb z=>s.dm b (t.dm b z),t.dd.trans s.dd⟩
def fH.put(t:xf M.las.length M.trs.length r)(s:a.G=Z.G)(h1:c.las.length=M.las.length)(h2:c.trs.length=M.trs.length)(h3:a.tk=Z.tk)(h4:∀x∈a.cv,x∈Z.cv\/∃l,x.2=.ref l/\(gB M Z l\/H l=none)):fH H M Z (az H (Z.G r) o) c a:=⟨by rw[s],λb o h n=>(by rw[am λz=>n (.inl ⟨r,t,z⟩)];exact h),λb q=>by
  rcases q with⟨m,h,e⟩|⟨i,hi,x,k,e⟩|⟨x,k,e⟩
  ·exact .inl (.inl ⟨m,by rw[<-h1,<-h2];exact h,by rw[e,s]⟩)
  ·exact .inl (.inr (.inl ⟨i,by rw[<-h1];exact hi,x,by rw[<-h3];exact k,e⟩))
  ·rcases h4 x k with q|⟨l,u,q⟩
   ·exact .inl (.inr (.inr ⟨x,q,e⟩))
   ·rw[u]at e;cases e;exact q,λb z=>mD z,by rw[s]⟩
end
def fH.out{o:Addr}{x:HO}{H c:Hp}{M M1:bG}{Z d:ZS}(s:fH H M Z c M1 d)(n:H o=none):fH H M Z (az c o x) M1 d:=⟨s.hh,λb e h q=>(by rw[am (aD h n)];exact s.fr b e h q),s.fp,λb z=>s.dm b (mD z),s.dd⟩
theorem eX.ex(h:eX H tk m)(x:iX)(b:x∈tk):∃l c,x.2.2=.ref l/\H l=some (.lst c):=(Paired.ex h x b).elim λ_ q=>q.2.2.imp λ_ q=>⟨_,q⟩
theorem eB.ex(h:eB K H dl cv cm)(x:bL×V)(b:x∈cv):∃l c,x.2=.ref l/\H l=some (.lst c):=(Paired.ex h x b).elim λ_ q=>q.2.imp λ_ q=>q.imp λ_ q=>⟨q.1,q.2.2.1⟩
def bA.foot(h:bA P w K a H M Z)(c:H b=none):¬gB M Z b:=λz=>by
 rcases z with⟨r,j,e⟩|⟨i,hi,x,d,e⟩|⟨x,d,e⟩
 ·obtain⟨o,q⟩:=m8 P w a Z j;rw[e,h.at_ r o q]at c;cases c
 ·obtain⟨_,⟨m,q,_⟩,_⟩:=h.tabs i _ (hY hi);obtain⟨l,k,f,g⟩:=q.ex x d;rw[f]at e;cases e;rw[g]at c;cases c
 ·obtain⟨l,k,f,g⟩:=h.came.ex x d;rw[f]at e;cases e;rw[g]at c;cases c
structure Iq(M:bG)(c:Nat)(l:cD):Prop where
 wd:Wd l.nm
 sl:0<=l.sl/\l.sl<=M.p
 ok:l.S.Ok M.p
 len:l.ins.length<=63
 gs:∀x∈l.ins,Bw x.1
 nd:(l.ins.map (·.1)).Nodup
 own:∀k q,q∈l.S.pl k->k=fF "" ""\/∃t∈M.trs,t.home=l.nm/\∃y∈t.arms,k=fF t.nm y
structure KA(M:bG)(t:et):Prop where
 wd:Wd t.nm
 hm:t.home∈M.las.map cD.nm
 a1:1<=t.arms.length
 a4:t.arms.length<=4
 nd:t.arms.Nodup
 aw:∀x∈t.arms,Wd x
 hg:t.rule.hgt<=6
 s8:t.shuts.length<=8
structure nu(M:bG)(c:Nat):Prop where
 p:2<=M.p/\M.p<=997
 ln:(M.las.map cD.nm).Nodup
 tn:(M.trs.map et.nm).Nodup
 la:∀l∈M.las,Iq M c l
 tr:∀t∈M.trs,KA M t
 cm:∀x∈M.came,x.2.length<=10*c
 l4:M.las.length<=4
 tc:M.trs.length<=10
 cl:M.came.length<=10*c
 br:∀t∈M.trs,t.bar.length<=c
structure cP(P:RH)(w:World)(K:RC)(a:jl)(H:Hp)(M:bG)(Z:ZS)(c:Nat):Prop where
 g:bA P w K a H M Z
 ok:nu M c
 tk:∀i,(Z.tk i).length<=10*c
 ow:∀i,(Z.ow i).length<=5000*c
 ds:Z.ds.length<=c
def Iq.mono{M:bG}{c d:Nat}{l:cD}(h:Iq M c l)(hc:c<=d):Iq M d l:=⟨h.wd,h.sl,h.ok,h.len,h.gs,h.nd,h.own⟩
theorem nu.mono(h:nu M c)(hc:c<=d):nu M d:={h with la:=λl b=>(h.la l b).mono hc,cm:=λx e=>mu (h.cm x e) (Qg _ hc),cl:=mu h.cl (Qg _ hc),br:=λt f=>mu (h.br t f) hc}
theorem cP.mono(h:cP P w K a H M Z c)(hc:c<=d):cP P w K a H M Z d:=⟨h.g,h.ok.mono hc,λi=>mu (h.tk i) (Qg _ hc),λi=>mu (h.ow i) (Qg _ hc),mu h.ds hc⟩
theorem cP.same(h:cP P w K a H M Z c)(e:ao H H'):cP P w K a H' M Z c:={h with g:=h.g.same e}
section
variable{P:RH}{w:World}{K:RC}{a:jl}{H b:Hp}{M:bG}{Z:ZS}{c:Nat}
def bA.house(h:bA P w K a H M Z):H (Z.G .hh)=some (.ins a.bu (Z.dx .hh) [("own_prime",.int M.p),("own_salt",.int M.salt),("layer_named",.ref (Z.G .ln)),("trial_named",.ref (Z.G .tn)),("came_into",.ref (Z.G .ci)),("deeds",.ref (Z.G .dl))]):=h.at_ .hh _ rfl
def bA.lays(h:bA P w K a H M Z):H (Z.G .ln)=some (.dK (jT (M.las.map cD.nm) λi=>.ref (Z.G (.lo i)))):=h.at_ .ln _ rfl
def bA.tris(h:bA P w K a H M Z):H (Z.G .tn)=some (.dK (jT (M.trs.map et.nm) λi=>.ref (Z.G (.tr i)))):=h.at_ .tn _ rfl
def bA.cams(h:bA P w K a H M Z):H (Z.G .ci)=some (.dK Z.cv):=h.at_ .ci _ rfl
def bA.dees(h:bA P w K a H M Z):H (Z.G .dl)=some (.lst Z.ds):=h.at_ .dl _ rfl
def bA.layer(h:bA P w K a H M Z)(d:M.las[i]?=some l):H (Z.G (.lo i))=some (.ins a.eQ (Z.dx (.lo i)) [("slope",.int l.sl),("table",.ref (Z.G (.tb i))),("inside",.ref (Z.G (.iu i)))]):=h.at_ (.lo i) _ (by simp only[cont,d];rfl)
def bA.inside(h:bA P w K a H M Z)(d:M.las[i]?=some l):H (Z.G (.iu i))=some (.dK (Z.iv i)):=h.at_ (.iu i) _ (by simp only[cont,d];rfl)
def bA.trial(h:bA P w K a H M Z)(d:M.trs[i]?=some t):H (Z.G (.tr i))=some (.ins a.fq (Z.dx (.tr i)) [("home",.str t.home),("arms",.ref (Z.ar i)),("rule",Z.ru i),("shuts",.ref (Z.sh i)),("paused",.bl t.pau),("closed",.bl t.clo),("barred",.ref (Z.G (.ba i)))]):=h.at_ (.tr i) _ (by simp only[cont,d];rfl)
def bA.barred(h:bA P w K a H M Z)(d:M.trs[i]?=some t):H (Z.G (.ba i))=some (.dK (t.bar.map λg=>(.inr g,.bl true))):=h.at_ (.ba i) _ (by simp only[cont,d];rfl)
def nu.lget(h:nu M c)(d:M.las[i]?=some l):aW (jT (M.las.map cD.nm) λi=>.ref (Z.G (.lo i))) (.inr l.nm)=some (.ref (Z.G (.lo i))):=t8 h.ln (by rw[ig,d];rfl)
def nu.tget(h:nu M c)(d:M.trs[i]?=some t):aW (jT (M.trs.map et.nm) λi=>.ref (Z.G (.tr i))) (.inr t.nm)=some (.ref (Z.G (.tr i))):=t8 h.tn (by rw[ig,d];rfl)
theorem nu.home(h:nu M c)(d:t∈M.trs):∃(i:Nat)(l:cD),M.las[i]?=some l/\l.nm=t.home:=by obtain⟨l,f,e⟩:=mo.mp (h.tr t d).hm;obtain⟨i,hi⟩:=k_.mp f;exact⟨i,l,hi,e⟩
end
section
variable{K:RC}{H:Hp}
def bR.find(h:bR K H iv ins)(hn:(ins.map (·.1)).Nodup):∀x∈ins,∃s,aW iv (.inr x.1)=some (.ref s)/\aT K H s [.str x.2.1,.str x.2.2]:=by induction h with|nil=>exactλx b=>(nomatch b)|@cons _ y _ _ h _ c=>
  intro x b;obtain⟨h1,s,h2,h3⟩:=h;rw[np,Ry]at hn;rcases pv.mp b with rfl|b
  ·exact⟨s,by rw[cn h1,h2],h3⟩
  ·obtain⟨d,f,g⟩:=c hn.2 x b;refine⟨d,?_,g⟩;rw[bH,f];intro e;rw[h1]at e;exact hn.1 (by rw[show y.1=x.1 from ro e];exact mo.mpr ⟨x,b,rfl⟩)
theorem bR.none(h:bR K H iv ins)(hn:g∉ins.map (·.1)):aW iv (.inr g)=Option.none:=by induction h with|nil=>rfl|@cons _ y _ _ h _ b=>
  rw[np]at hn;rw[bH]
  ·exact b λz=>hn (kw _ z)
  ·intro e;rw[h.1]at e;exact hn (by rw[show y.1=g from ro e];exact l_)
def bR.drop(g:Str)(h:bR K H iv ins):bR K H (dH iv (.inr g)) (ins.filter λx=>decide (x.1≠g)):=by induction h with|nil=>exact .nil|@cons x y _ _ h _ b=>
  by_cases e:y.1=g
  ·rw[xM (by rw[h.1,e]),List.filter_cons_of_neg (by simp[e])];exact b
  ·rw[xN (λz=>e (by rw[h.1]at z;exact ro z)),List.filter_cons_of_pos (by simp[e])];exact .cons h b
end
def c8(ins:List (Str×Str×Str))(gs:RI):List (Str×Str×Str):=ins.filter λx=>decide (x.1∉gs)
def lP(ins:List (Str×Str×Str)):c8 ins []=ins:=List.filter_eq_self.mpr λ_ _=>by simp
def sO(ins:List (Str×Str×Str))(gs:RI)(g:Str):c8 ins (gs++[g])=(c8 ins gs).filter λx=>decide (x.1≠g):=by
 unfold c8;rw[List.filter_filter];refine List.filter_congr λx _=>?_
 by_cases h1:x.1∈gs<;>by_cases h2:x.1=g<;>simp[h1,h2]
def CB(h:g∈ins.map (·.1))(hn:g∉gs):∃x∈c8 ins gs,x.1=g:=by obtain⟨x,b,rfl⟩:=mo.mp h;exact⟨x,vr.mpr ⟨b,by simpa using hn⟩,rfl⟩
def xE(h:(ins.map (·.1)).Nodup):((c8 ins gs).map (·.1)).Nodup:=(List.Sublist.map _ List.filter_sublist).nodup h
abbrev bG.setL(M:bG)(i:Nat)(l:cD):bG:={M with las:=M.las.set i l}
def mT{M:bG}{i:Nat}{l:cD}(b:M.las[i]?=some l):M.setL i l=M:=by
 have e:M.las.set i l=M.las:=zz λj=>by
  rw[Qq]
  split
  ·rename_i q;subst q;rw[i_ (d_.mp b).1,b]
  ·rfl
 unfold bG.setL;rw[e]
def uA{M:bG}{i:Nat}{l b:cD}:(M.setL i l).setL i b=M.setL i b:=by unfold bG.setL;rw[List.set_set]
def uB{M:bG}{i:Nat}{l l':cD}(b:M.las[i]?=some l):(M.setL i l').las[i]?=some l':=by show(M.las.set i l')[i]?=_;rw[A_ (d_.mp b).1]
theorem nu.setL{M:bG}{c d:Nat}(h:nu M c){i:Nat}{l b:cD}(g:M.las[i]?=some l)(h1:b.nm=l.nm)(hc:c<=d)(ok:Iq M d b):nu (M.setL i b) d:=by
 have e:(M.las.set i b).map cD.nm=M.las.map cD.nm:=d8 g cD.nm h1;have h:=h.mono hc;refine{h with ln:=by rw[e];exact h.ln,la:=λx j=>?_,tr:=λt f=>{h.tr t f with hm:=by show t.home∈(M.las.set i b).map cD.nm;rw[e];exact(h.tr t f).hm},l4:=by show(M.las.set i b).length<=4;rw[vu];exact h.l4};rcases v1 j with q|rfl
 ·exact{h.la x q with}
 ·exact{ok with}
inductive NQ(P:RH)(w:World)(K:RC)(a:jl)(vs:List V)(H:Hp)(Q:VK)(_E:XK):Prop|mk(M:bG)(Z:ZS)(c i:Nat)(l:cD)(g:Addr)(gs:RI)(_:vs=[.ref (Z.G .hh),.ref (Z.G (.lo i)),.ref g])(_:cP P w K a H M Z c)(_:M.las[i]?=some l)(_:H g=some (.lst (gs.map V.str)))(_:(∀x∈gs,x∈l.ins.map (·.1)))(_:gs.Nodup)(_:gs.length<=63)(_:∀(r:Addr)(us:List V)(Z':ZS)(H':Hp),fH H M Z H' (M.setL i {l with ins:=c8 l.ins gs}) Z'->cP P w K a H' (M.setL i {l with ins:=c8 l.ins gs}) Z' c->H r=none->H' r=some (.lst us)->Z'.ds=Z.ds->Q (.ref r) H')
section
def kQ(T:Txt K mg a):aP P w K mg base dI 1 a.cx.x a.cx.d ["self","layer","guests"] (NQ P w K a):=by
 refine T.cx.ok eT λbz A outer s H vs Q E hr h=>?_
 ·obtain⟨M,Z,c,i,l,g,gs,rfl,hZ,hl,hg,a8,ba,bu,q⟩:=h;refine⟨_,(ag (bf 3 eT.nd (bg ae)) (ag (dw op rfl (cK K rfl (Y 2)) (pF 4 eT.nd) (ag (bf 5 eT.nd (Ar (aI K rfl (Y 1)) (Y 4) ⟨rfl,rfl,rfl,rfl⟩)) (ah (aN (gK K rfl PySem.F.plainAttrs_list PySem.F.slot_list_append PySem.F.type_list_append dG (Y 3) (ac (av (uU K rfl) (bF (ac (Y 4) ae)) (Y 5)) ae)))))) (ah (ax (au (CM K rfl) (by rfl) T.AI L2.sU (ac (Y 3) ae)))))),?_⟩
  refine⟨ls rfl,λo ho=>aq ?_⟩;have s1:=ai (o:=.lst []) (ao.refl H) ho;have ap:az H o (.lst []) o=some (.lst []):=O;generalize az H o (.lst [])=H1 at s1 ap⊢;have hL:=hZ.ok.la l (h_ hl);have bb:¬gB M Z o:=hZ.g.foot ho;have bc:(gs.map V.str).length=gs.length:=c_ ..;refine U rfl ⟨g,rfl,⟨_,aO.of (s1 _ _ hg)⟩,?_⟩;refine jH (xs:=gs.map V.str) (λk σ H'=>Fk λR C=>OI (bA P w K a H' (M.setL i {l with ins:=c8 l.ins (gs.take k)}) R) (R.G=Z.G) (R.tk=Z.tk) (R.ow=Z.ow) (R.ds=Z.ds) (R.cv=Z.cv) (¬gB (M.setL i {l with ins:=c8 l.ins (gs.take k)}) R o) (fH H M Z H' (M.setL i {l with ins:=c8 l.ins (gs.take k)}) R) (H' g=some (.lst (gs.map V.str))) (H' o=some (.lst (C.map V.ref))) (C.length=k) ((∀u∈C,∃x y z,aT K H' u [.str x,.str y,.str z])) (Fk λv4 v5=>σ=[some (.ref (Z.G .hh)),some (.ref (Z.G (.lo i))),some (.ref g),some (.ref o),v4,v5])) ⟨Z,[],by rw[x_,lP];exact(mT hl).symm▸hZ.g.same s1,rfl,rfl,rfl,rfl,rfl,by rw[x_,lP];exact(mT hl).symm▸bb,by rw[x_,lP];exact(mT hl).symm▸fH.of s1,s1 _ _ hg,ap,rfl,λu hu=>(nomatch hu),_,_,rfl⟩ (λk σ H' _ h=>by obtain⟨_,_,_,_,_,_,_,_,_,_,h,_⟩:=h;exact aO.of h) ?_ ?_
  ·rintro k v σ H2 hv⟨f,C,m,eG,aa,ad,D,as,S,p,al,B,I,t,v4,v5,rfl⟩;rw[ig]at hv;obtain⟨x,W,rfl⟩:=Option.map_eq_some_iff.mp hv;have hk:k<gs.length:=(d_.mp W).1;have X:=cu W;have bd:x∉gs.take k:=λz=>by have:=ba;rw[<-ta k gs,qx]at this;exact this.2.2 x z x (h_ (by rw[Ql,Nat.add_zero];exact W)) rfl
   have bi:¬gB (M.setL i {l with ins:=c8 l.ins (gs.take k)}) f o:=λz=>(S z);obtain⟨y,hy,ey⟩:=CB (a8 x (h_ W)) bd;have n:=uB (l':={l with ins:=c8 l.ins (gs.take k)}) hl;have a2:=m.seats i _ n;obtain⟨s,a3,J⟩:=a2.find (xE hL.nd) y hy;rw[ey]at a3;refine aq (jS (by rw[<-eG];exact m.layer n) T.cg T.bQ rfl rfl ⟨f.G (.iu i),rfl,.inl ⟨_,.inl (m.inside n)⟩,U rfl ⟨_,.inr x,_,m.inside n,rfl,a3,aq ?_⟩⟩);have L:=m.setIns n (a2.drop x);have im:=m.imm (r:=.iu i) (by simp only[cont,n];rfl) (bV (o':=.dK (dH (f.iv i) (.inr x))));have N:fH H2 _ f (az H2 (f.G (.iu i)) (.dK (dH (f.iv i) (.inr x)))) ((M.setL i {l with ins:=c8 l.ins (gs.take k)}).setL i {l with ins:=(c8 l.ins (gs.take k)).filter λz=>decide (z.1≠x)}) {f with iv:=λj=>if j=i then dH (f.iv i) (.inr x)else f.iv j}:=fH.put (show i<_ from(d_.mp n).1) rfl (vu ..) rfl rfl λx W=>.inl W;have a5:=bV (x:=f.G (.iu i)) (o':=.dK (dH (f.iv i) (.inr x))) _ _ al λz=>by have e:=m.inside n;rw[<-z,al]at e;cases e
   have an:=bV (x:=f.G (.iu i)) (o':=.dK (dH (f.iv i) (.inr x))) _ _ B λz=>by have e:=m.inside n;rw[<-z,B]at e;cases e
   rw[uA,<-sO,<-X]at N;have L:bA P w K a (az H2 (f.G (.iu i)) (.dK (dH (f.iv i) (.inr x)))) (M.setL i {l with ins:=c8 l.ins (gs.take (k+1))}) {f with iv:=λj=>if j=i then dH (f.iv i) (.inr x)else f.iv j}:=by rw[X,sO,<-uA (l:={l with ins:=c8 l.ins (gs.take k)})];exact L
   have J:=im.kp.tq J;have t:∀u∈C,∃x1 y1 z1,aT K (az H2 (f.G (.iu i)) (.dK (dH (f.iv i) (.inr x)))) u [.str x1,.str y1,.str z1]:=λu hu=>let⟨x1,y1,z1,h⟩:=t u hu;⟨x1,y1,z1,im.kp.tq h⟩;generalize az H2 (f.G (.iu i)) (.dK (dH (f.iv i) (.inr x)))=H3 at L N a5 an J t⊢;refine U rfl ⟨.inl ⟨rfl,_,aO.of an⟩,U rfl ⟨ls rfl,λT1 a6=>(U rfl ⟨T1,s,[.str x],U rfl ⟨rfl,aT.of O,ao.tseq (ai (ao.refl _) a6) J,by simp,by rw[j1];simp,λz=>(nomatch z),λ_ T2 bt=>?_⟩⟩)⟩⟩;have s5:=ai (o:=.tup ([.str x]++[.str y.2.1,.str y.2.2])) (ai (o:=.tup [.str x]) (ao.refl H3) a6) bt;have e5:az (az H3 T1 (.tup [.str x])) T2 (.tup ([.str x]++[.str y.2.1,.str y.2.2])) T2=some (.tup [.str x,.str y.2.1,.str y.2.2]):=O;generalize az (az H3 T1 (.tup [.str x])) T2 (.tup ([.str x]++[.str y.2.1,.str y.2.2]))=H5 at s5 e5⊢;have a7:=s5 _ _ an;refine rA a7 (by rw[c_,I,j1];lia) ?_;have kp:Kp H5 (az H5 o (.lst (C.map V.ref++[.ref T2]))):=.lst a7;have nF:¬gB (M.setL i {l with ins:=c8 l.ins (gs.take (k+1))}) {f with iv:=λj=>if j=i then dH (f.iv i) (.inr x)else f.iv j} o:=λz=>by
    rcases N.fp o z with q|q
    ·exact bi q
    ·rw[B]at q;cases q
   have kq:∀b ob,H5 b=some ob->b≠o->az H5 o (.lst (C.map V.ref++[.ref T2])) b=some ob:=bV;refine⟨{f with iv:=λj=>if j=i then dH (f.iv i) (.inr x)else f.iv j},C++[T2],(L.same s5).out nF kp kq,eG,aa,ad,D,as,nF,((p.trans N).trans (fH.of s5)).out ho,?_,?_,by rw[iA,I];rfl,λu hu=>?_,_,_,rfl⟩
   ·exact kq _ _ (s5 _ _ a5) λz=>by rw[z,ho]at hg;cases hg
   ·rw[O,il];rfl
   ·rcases Rz.mp hu with z|z
    ·obtain⟨x1,y1,z1,h⟩:=t u z;exact⟨x1,y1,z1,kp.tq (ao.tseq s5 h)⟩
    ·rw[List.mem_singleton.mp z];exact⟨_,_,_,kp.tq (aT.of e5)⟩
  ·rintro σ H2⟨f,C,m,eG,aa,ad,D,as,S,p,al,B,I,t,v4,v5,rfl⟩;rw[bc]at I m p;rw[ku (f_ _)]at m p;refine U rfl ⟨o,C,rfl,aO.of B,by lia,t,λr vs hr hp=>?_⟩;have s6:=ai (o:=.lst (vs.map V.ref)) (ao.refl H2) hr;refine q r (vs.map V.ref) f _ (p.trans (fH.of s6)) ⟨m.same s6,?_,λj=>by rw[aa];exact hZ.tk j,λj=>by rw[ad];exact hZ.ow j,by rw[D];exact hZ.ds⟩ (p.dm _ hr) O D;refine hZ.ok.setL hl rfl (f_ _) {hL with len:=mu (v_ _ _) hL.len,gs:=λx W=>hL.gs x (vr.mp W).1,nd:=xE hL.nd}
end
def MS.kp(e:Kp H H')(h:MS K H b W):MS K H' b W:=Paired.mapP h λ_ _ q=>q.imp λ_ q=>q.imp λ_ q=>⟨q.1,e.tq q.2.1,jF e q.2.2⟩
def sx(x:Str)(arms:RI)(l:RN):Wl:=(arms.zip l).map λp=>(fF x p.1,p.2)
def Iz(h:l.length=arms.length):(sx x arms l).length=arms.length:=by unfold sx;rw[c_,List.length_zip,h,Nat.min_self]
def Li{x:Str}{arms:RI}{l:RN}{i:Nat}{y:Str}{z:Int}(h1:arms[i]?=some y)(h2:l[i]?=some z):(sx x arms l)[i]?=some (fF x y,z):=by unfold sx;rw[ig,List.getElem?_zip_eq_some (z:=(y,z))|>.mpr ⟨h1,h2⟩];rfl
theorem ug:∀{arms:RI}{l:RN},l.length=arms.length->(sx x arms l).map (·.1)=arms.map (fF x)|[],_,_=>rfl|y::r,[],h=>nomatch h|y::r,z::l,h=>by show fF x y::(sx x r l).map (·.1)=fF x y::r.map (fF x);rw[ug (by simpa using h)]
def CS(h:fF x y=fF z u):x=z/\y=u:=by have h:=ro h;rw[List.cons.injEq,List.cons.injEq]at h;exact⟨ro h.1,ro h.2.1⟩
def Lh(h:l.length=arms.length)(hn:arms.Nodup):((sx x arms l).map (·.1)).Nodup:=by rw[ug h,PD,List.pairwise_map];exact(PD.mp hn).imp λh e=>h (CS e).2
def Lg(h:∀i∈l,0<=i):∀y∈sx x arms l,0<=y.2:=λy b=>by obtain⟨p,c,rfl⟩:=mo.mp b;exact h _ (Qc c).2
def Hh{S:AS}{j k:ca}{n:Nat}{q:Int}(h:q∈(S.give j n).pl k):q∈S.pl k:=by
 have h:q∈(if k=j then(S.pl j).take n else S.pl k):=h
 split at h
 ·rename_i e;rw[e];exact P_ h
 ·exact h
theorem mJ:∀{W:Wl}{S:AS}{k:ca}{q:Int},q∈(cH S W).pl k->q∈S.pl k|[],_,_,_,h=>h|x::r,_,_,_,h=>Hh (mJ (W:=r) h)
theorem mh:∀{W:Wl}{S:AS}{k:ca}{q:Int},q∈(de n S W).pl k->q∈S.pl k\/k∈W.map (·.1)
 |[],_,_,_,h=>.inl h|x::r,S,k,q,h=>by
  rcases mh (W:=r) h with h|h
  ·have h:q∈(if k=x.1 then S.pl x.1++_ else S.pl k):=h
   split at h
   ·rename_i e;exact .inr (by rw[np,e];exact l_)
   ·exact .inl h
  ·exact .inr (kw _ h)
section
variable{P:RH}{w:World}{K:RC}{a:jl}{H d:Hp}{M:bG}{Z:ZS}{c:Nat}
theorem cP.told(h:cP P w K a H M Z c)(A:M.las[i]?=some l)(o:mM (Z.G (.od i)) (Z.G (.td i)) H d)(C:eF P w K a.bN d (Z.G (.tb i)) (Z.G (.od i)) (Z.G (.td i)) M.p f s L)(N:jU M.p v f L)(Q:wc (c6 K H) M.p v f)(I:fe H (Z.tk i) s)(b1:s.length<=(Z.tk i).length+10)(b2:f.length<=(Z.ow i).length+5000)(hok:v.Ok M.p)(own:∀k q,q∈v.pl k->(∃D,D∈l.S.pl k)\/k=fF "" ""\/∃t∈M.trs,t.home=l.nm/\∃y∈t.arms,k=fF t.nm y):∃B,cP P w K a d (M.setL i {l with S:=v}) B (c+1)/\fH H M Z d (M.setL i {l with S:=v}) B/\B.ds=Z.ds/\B.G=Z.G:=by
 have J:=h.ok.la l (h_ A);obtain⟨m,U,_⟩:=h.g.tab A;have len:(M.setL i {l with S:=v}).las.length=M.las.length:=vu ..;refine⟨_,⟨h.g.told A o C N Q I,h.ok.setL A rfl (rk c) {J.mono (rk c)with ok:=hok,own:=λk q O=>?_},λj=>?_,λj=>?_,y_ h.ds⟩,⟨rfl,λb ob e n=>?_,λb q=>?_,λb z=>pO o (by rw[C.own];simp) (by rw[C.tak];simp) z,rfl⟩,rfl,rfl⟩
 ·rcases own k q O with⟨D,h1⟩|h1
  ·exact J.own k D h1
  ·exact h1
 ·show(if j=i then s else Z.tk j).length<=_;have:=h.tk j
  split
  ·rename_i e;subst e;lia
  ·lia
 ·show(if j=i then f else Z.ow j).length<=_;have:=h.ow j
  split
  ·rename_i e;subst e;lia
  ·lia
 ·have hi:=(d_.mp A).1;exact o b ob e (λz=>n (.inl ⟨.od i,hi,z⟩)) (λz=>n (.inl ⟨.td i,hi,z⟩))
 ·rcases q with⟨r,R,e⟩|⟨j,E,x,u,e⟩|⟨x,u,e⟩
  ·exact .inl (.inl ⟨r,by rw[<-len];exact R,e⟩)
  ·rw[len]at E
   replace u:x∈(if j=i then s else Z.tk j):=u
   by_cases q:j=i
   ·rw[i_ q]at u;subst q;rcases I x u with⟨y,T,F⟩|⟨V,F,hn⟩
    ·exact .inl (.inr (.inl ⟨j,E,y,T,by rw[F,e]⟩))
    ·rw[F]at e;cases e;exact .inr hn
   ·rw[ir q]at u;exact .inl (.inr (.inl ⟨j,E,x,u,e⟩))
  ·exact .inl (.inr (.inr ⟨x,u,e⟩))
end
def bR.get(h:bR K H iv ins)(k:Nat)(x:bL×V)(e:iv[k]?=some x):∃y,ins[k]?=some y/\x.1=.inr y.1:=(Paired.at_ h k x e).imp λ_ q=>⟨q.1,q.2.1⟩
def bR.len(h:bR K H iv ins):iv.length=ins.length:=Paired.length h
def Du{z:Int}{l:RN}:nC (.int z) (l.map V.int)=decide (z∈l):=by
 by_cases h:z∈l
 ·rw[m3 h];unfold nC;rw[QD];exact⟨.int z,mo.mpr ⟨z,h,rfl⟩,by show(z==z)=true;exact B_ z⟩
 ·rw[nk h];unfold nC;rw[Q_];intro v b e;obtain⟨y,c,rfl⟩:=mo.mp b;have e:(y==z)=true:=e;exact h (by rw[<-eq_of_beq e];exact c)
theorem oM:∀l:List Int,(l.map V.int).all nV=true|[]=>rfl|w::r=>by rw[np,P8,oM r];rfl
def Mw(M:bG)(l:cD)(b:RN):List Str:=(l.ins.map (·.1)).filter λg=>decide (wy M.p M.salt l.sl g∈b)
def uy(M:bG)(l:cD)(t:et)(ns:RN):AS:=de M.p (cH l.S (sx t.nm t.arms ns)) (sx t.nm t.arms ns)
def on(M:bG)(i:Nat)(l:cD)(t:et)(ns:RN):bG:=M.setL i {l with S:=uy M l t ns,ins:=c8 l.ins (Mw M l (dB l.S (sx t.nm t.arms ns)))}
inductive IM(P:RH)(w:World)(K:RC)(a:jl)(vs:List V)(H:Hp)(Q:VK)(E:XK):Prop|mk(M:bG)(Z:ZS)(c i j:Nat)(l:cD)(t:et)(nv:Addr)(ns:RN)(_:vs=[.ref (Z.G .hh),.str t.nm,.ref nv])(_:cP P w K a H M Z c)(_:c<=99)(_:M.trs[j]?=some t)(_:M.las[i]?=some l)(_:l.nm=t.home)(_:(aO K H nv (ns.map V.int)\/aT K H nv (ns.map V.int)))(_:ns.length=t.arms.length)(_:(∀x∈ns,0<=x))(_:(j9 l.S (sx t.nm t.arms ns)<=((pW M.p l.S.oc).length:Int)->∀(r:Addr)(us:List V)(Z':ZS)(H':Hp),fH H M Z H' (on M i l t ns) Z'->cP P w K a H' (on M i l t ns) Z' (c+1)->H r=none->H' r=some (.lst us)->Z'.ds=Z.ds->Q (.ref r) H'))(_:(((pW M.p l.S.oc).length:Int)<j9 l.S (sx t.nm t.arms ns)->∀H',ao H H'->E (.ref a.mO) none H'))
section
def gj(T:Txt K mg a):aP P w K mg base (yd P w) 4 a.bE.x a.bE.d ["self","name","numbers"] (IM P w K a):=by
 refine T.bE.okE dg λef A outer s H vs Q E hr h=>?_
 ·obtain⟨M,Z,c,i,j,l,t,nv,ns,rfl,u,hc,hj,hl,hh,cE,ad,c0,q,qe⟩:=h;refine⟨_,(ag (bf 3 dg.nd (eC (cj hr) (aI K rfl (Y 0)) (Y 1) (λ_ _=>rfl))) (ag (uO (i:=4) dg.nd rfl (.inr rfl) (eC (cj hr) (aI K rfl (Y 0)) (aI K rfl (Y 3)) (λ_ _=>rfl))) (ag (uO (i:=5) dg.nd rfl (.inr rfl) (bw (aI K rfl (Y 4)) T.bv T.dR.m ((nO (P:=P) (w:=w) T).mono (by decide)) hr T.dR.b .nil iD (ac (wb cO ["arm","number"] [] [7,8] (aj dC) (zc _ 7 8) (Jo K rfl rfl T.N8 (ac (aI K rfl (Y 3)) (ac (Y 2) ae))) (λcl C s₀ H₀ ex=>⟨(gf K rfl rfl (bo (nz cO ["arm","number"] 7) (bo (nz cO ["arm","number"] 8) gc))),bY,(bF (ac (bF (ac (Y 1) (ac (Y 7) ae))) (ac (Y 8) ae)))⟩)) ae))) (ag (BT (P:=P) (w:=w) (HE 6 cO ["guest"] [] [7] (aj dC) (ck 7) (Jr (P:=P) (w:=w) (aI K rfl (Y 4))) (λcl C s₀ H₀ ex=>⟨(nz cO ["guest"] 7),(t6 (aC (oG K rfl) (bw (Y 0) T.aF T.cb.m ((j6 (P:=P) (w:=w) T).mono (by decide)) hr T.cb.b .nil bx (ac (Y 4) (ac (Y 7) ae))) (Y 5) (by with_unfolding_all rfl))),(Y 7)⟩) dg.nd)) (ah (ax (bw (Y 0) T.aF T.cx.m ((kQ (P:=P) (w:=w) T).mono (by decide)) hr T.cx.b .nil bx (ac (Y 4) (ac (Y 6) ae))))))))),?_⟩
  have ba:=h_ hj;have hT:=u.ok.tr t ba;have hL:=u.ok.la l (h_ hl);have hI:=u.g.house;have bb:=u.g.trial hj;obtain⟨bc,-,-⟩:=u.g.trs j t hj;have bd:=u.ok.lget (Z:=Z) hl;rw[hh]at bd;refine jS hI T.aF T.a9 rfl rfl (U rfl (rG (.ref (Z.G (.tr j))) (by rw[<-u.ok.tget (Z:=Z) hj];exact d0.k (k:=.inr t.nm) u.g.tris) (aq ?_)));refine jS hI T.aF T.aX rfl rfl (jS bb T.be T.kx rfl rfl (rG (.ref (Z.G (.lo i))) (by rw[<-bd];exact d0.k (k:=.inr t.home) u.g.lays) (aq ?_)));obtain⟨m,bi,eh⟩:=u.g.tab hl;obtain⟨ei,c1⟩:=bi.ins;refine jS (u.g.layer hl) T.cg T.gm rfl rfl (rM c1 rfl ?_);refine jS bb T.be T.iE rfl rfl (U rfl ⟨Z.ar j,nv,t.arms.map V.str,ns.map V.int,rfl,bc,?_⟩);have c2:(sx t.nm t.arms ns).length=t.arms.length:=Iz ad;have ej:=hT.a4;refine EY (K:=K) (a:=Z.ar j) (l:=nv) (xs:=t.arms.map V.str) (ys:=ns.map V.int) (λD k f H'=>ao H H'/\H' D=some (.lst f)/\MS K H' f ((sx t.nm t.arms ns).take k)) cE (λD hD=>⟨ai (ao.refl _) hD,O,.nil⟩) (by rw[c_,c_,ad]) (λD k f H' h=>⟨ao.tseq h.1 bc,h.1⟩) ?_ ?_
  ·rintro D k x1 x2 f H2 T1 hD a5 bt⟨s2,a6,L⟩c3;have hi:k<(t.arms.map V.str).length:=(d_.mp a5).1;rw[ig]at a5 bt;obtain⟨ya,c4,rfl⟩:=Option.map_eq_some_iff.mp a5;obtain⟨z2,da,rfl⟩:=Option.map_eq_some_iff.mp bt;have s3:=ai (o:=.tup [V.str ya,V.int z2]) (ao.refl H2) c3;have an:az H2 T1 (.tup [V.str ya,V.int z2]) T1=some (.tup [V.str ya,V.int z2]):=O;generalize az H2 T1 (.tup [V.str ya,V.int z2])=J at s3 an⊢;refine⟨T1,U rfl ⟨aT.of an,rfl,_,U rfl (aq ⟨_,U rfl (aq ⟨rfl,jm (bI ?_)⟩)⟩)⟩⟩;refine U rfl (U rfl ⟨ls rfl,λB dc=>(U rfl ⟨ls rfl,λT5 bu=>?_⟩)⟩);have s5:=ai (o:=.tup [.ref B,.int z2]) (ai (o:=.tup [.str t.nm,.str ya]) s3 dc) bu;have e5:az (az J B (.tup [.str t.nm,.str ya])) T5 (.tup [.ref B,.int z2]) T5=some (.tup [.ref B,.int z2]):=O;have e4:az (az J B (.tup [.str t.nm,.str ya])) T5 (.tup [.ref B,.int z2]) B=some (.tup [.str t.nm,.str ya]):=by rw[am (aD O bu)];exact O
   have di:f.length<=4:=by have:=Paired.length L;rw[no]at this;lia
   show az (az J B (.tup [.str t.nm,.str ya])) T5 (.tup [.ref B,.int z2]) D=some (.lst f)/\_;generalize az (az J B (.tup [.str t.nm,.str ya])) T5 (.tup [.ref B,.int z2])=H5 at s5 e4 e5⊢;have N:=s5 _ _ a6;have kp:Kp H5 (az H5 D (.lst (f++[.ref T5]))):=.lst N;refine⟨N,by rw[j1];exact rV di (lh rfl),lf hi ⟨a0 (s2.trans s5) hD,O,?_⟩⟩;rw[cu (Li c4 da)];exact Paired.snoc ((L.kp (.of s5)).kp kp) ⟨T5,.ref B,rfl,kp.tq (aT.of e5),B,rfl,kp.tq (aT.of e4)⟩
  ·rintro D f H2 hD⟨s2,a6,L⟩;rw[c_,ku (by exact PL c2)]at L;have a7:=u.same s2;obtain⟨m2,a8,bz⟩:=a7.g.tab hl;have ek:=u.tk i;have el:=u.ow i;have hp:=u.ok.p;refine⟨Z.G (.tb i),Z.G (.od i),Z.G (.td i),D,M.p,Z.ow i,Z.tk i,m2,l.S,sx t.nm t.arms ns,f,rfl,a8,bz,(a7.g.tabs i l hl).2.2.1,hL.ok,a6,L,Lg c0,Lh ad hT.nd,by lia,by lia,by lia,by lia,λdt lb en eo m' J off an dv dT eq R nw nl b1 b2=>aq ?_,λdV J s3=>qe dV J (s2.trans s3)⟩;obtain⟨Z3,v,d1,d2,eG⟩:=a7.told hl off an dv dT nw b1 b2 (lq _ (jG _ hL.ok)) λk x hx=>by
    rcases mh hx with h|h
    ·exact .inl ⟨x,mJ h⟩
    ·rw[ug ad]at h;obtain⟨y,hy,rfl⟩:=mo.mp h;exact .inr (.inr ⟨t,ba,hh.symm,y,hy,rfl⟩)
   have ap:=uB (l':={l with S:=uy M l t ns}) hl;have v:cP P w K a J (M.setL i {l with S:=uy M l t ns}) Z3 (c+1):=v;have bK:=v.g.seats i _ ap;have W:=v.g.layer ap;have F:=v.g.house;have I:=v.g.inside ap;rw[eG]at F W I;refine jS W T.cg T.bQ rfl rfl ⟨Z.G (.iu i),U rfl ⟨I,λep=>λDg as=>?_⟩⟩;have nd:Z.G (.iu i)≠Dg:=λz=>by rw[<-z,O]at as;cases as
   have a3:J Dg=none:=by rw[am (o_ nd)]at as;exact as
   have d3:(l.ins.map (·.1)).length=(Z3.iv i).length:=by rw[c_];exact bK.len.symm
   have er:=hL.len;refine zr (n:=(Z3.iv i).length) (λk f H2=>(∀b o,J b=some o->b≠Z.G (.iu i)->H2 b=some o)/\H2 (Z.G (.iu i))=some (dE P w (Z.G (.iu i)) (Z3.iv i) ep)/\H2 Dg=some (.lst f)/\f=(((l.ins.map (·.1)).take k).filter λg=>decide (wy M.p M.salt l.sl g∈dB l.S (sx t.nm t.arms ns))).map V.str) ⟨λb o e n=>by rw[am (aD e a3),am n];exact e,by rw[am nd,O],O,rfl⟩ (λk f H2 hk h=>⟨h.2.1,hk⟩) ?_ ?_
   ·rintro k f H4 x H5 hk⟨f4,X,aa,rfl⟩⟨rfl,hx⟩;obtain⟨p0,d4,rfl⟩:=Option.map_eq_some_iff.mp hx;obtain⟨y,hy,ey⟩:=bK.get k p0 d4;have d5:=hL.gs y (h_ hy);rw[ey];have bN:Z.G .hh≠Z.G (.iu i):=λz=>by rw[z,I]at F;cases F
    have ea:Z.G (.lo i)≠Z.G (.iu i):=λz=>by rw[z,I]at W;cases W
    have eb:lb≠Z.G (.iu i):=λz=>by rw[z,I]at R;cases R
    have ec:=hL.sl;refine aq (pC (f4 _ _ F bN) rfl rfl (U rfl (U rfl ⟨Z.G .hh,Z.G (.lo i),_,_,_,_,M.p,M.salt,l.sl,y.1,rfl,f4 _ _ F bN,rfl,rfl,f4 _ _ W ea,rfl,d5,⟨by lia,by lia⟩,⟨by exact ec.1,by lia⟩,λH6 s6=>?_⟩)));refine U rfl ⟨lb,U rfl ⟨.inl (aO.of (s6 _ _ (f4 _ _ R eb))),rfl,oM _,U rfl ?_⟩⟩;have b7:(l.ins.map (·.1)).take (k+1)=(l.ins.map (·.1)).take k++[y.1]:=cu (by rw[ig,hy];rfl);have al:((((l.ins.map (·.1)).take k).filter λg=>decide (wy M.p M.salt l.sl g∈dB l.S (sx t.nm t.arms ns))).map V.str).length<=63:=by rw[c_];refine mu (v_ _ _) ?_;rw[no,c_];lia
    show if(if false=true then _ else nC (.int (wy M.p M.salt l.sl y.1)) _)=true then _ else _
    rw[ir lm,Du];have f6:∀b o,J b=some o->b≠Z.G (.iu i)->H6 b=some o:=λb o e n=>s6 _ _ (f4 b o e n)
    by_cases a2:wy M.p M.salt l.sl y.1∈dB l.S (sx t.nm t.arms ns)
    ·rw[m3 a2];refine bI (U rfl ⟨s6 _ _ aa,by rw[j1];lia,lf hk ⟨λb o e n=>by rw[am (aD e a3)];exact f6 b o e n,by rw[am nd];exact s6 _ _ X,O,?_⟩⟩);rw[b7,Q2,il,List.filter_cons_of_pos (by simpa using a2)];rfl
    ·rw[nk a2];refine b0 (lf hk ⟨f6,s6 _ _ X,by rw[s6 _ _ aa],?_⟩);rw[b7,Q2,il,List.filter_cons_of_neg (by simpa using a2)];exact(rr _).symm
   ·rintro f H4⟨f4,X,aa,rfl⟩;refine⟨⟨X,f_ _⟩,aq ⟨Z.G (.iu i),_,ep,X,?_⟩⟩;rw[ku (by exact PL d3)]at aa;have s4:ao J (az H4 (Z.G (.iu i)) (.dK (Z3.iv i))):=λb o e=>by
     by_cases z:b=Z.G (.iu i)
     ·rw[z,I]at e;rw[z,O];exact e
     ·rw[am z];exact f4 b o e z
    have N:az H4 (Z.G (.iu i)) (.dK (Z3.iv i)) Dg=some (.lst ((Mw M l (dB l.S (sx t.nm t.arms ns))).map V.str)):=by rw[am (o_ nd)];exact aa
    generalize az H4 (Z.G (.iu i)) (.dK (Z3.iv i))=H5 at s4 N⊢;refine pC (s4 _ _ F) rfl rfl (U rfl (U rfl ⟨M.setL i {l with S:=uy M l t ns},Z3,c+1,i,_,Dg,Mw M l (dB l.S (sx t.nm t.arms ns)),by rw[eG];rfl,v.same s4,ap,N,λx hx=>(vr.mp hx).1,List.filter_sublist.nodup hL.nd,?_,λr us Z6 H6 b8 b9 hr ed cc=>?_⟩))
    ·refine mu (v_ _ _) ?_;rw[c_];lia
    ·rw[uA]at b8 b9;have ci:fH H M Z H5 (M.setL i {l with S:=uy M l t ns}) Z3:=((fH.of s2).trans d1).trans (fH.of s4);exact q dt r us Z6 H6 (ci.trans b8) b9 (ci.dm _ hr) ed (cc.trans d2)
end
abbrev bG.setT(M:bG)(j:Nat)(t:et):bG:={M with trs:=M.trs.set j t}
def kJ{M:bG}{i:Nat}{t t':et}(b:M.trs[i]?=some t):(M.setT i t').trs[i]?=some t':=by show(M.trs.set i t')[i]?=_;rw[A_ (d_.mp b).1]
section
variable{P:RH}{w:World}{K:RC}{a:jl}{H b:Hp}{M:bG}{Z:ZS}{c:Nat}
theorem nu.setT(h:nu M c){j:Nat}{t d:et}(g:M.trs[j]?=some t)(h1:d.nm=t.nm)(h2:d.home=t.home)(h3:d.arms=t.arms)(h4:d.rule=t.rule)(h5:d.shuts=t.shuts)(p:d.bar.length<=c):nu (M.setT j d) c:=by
 have r:(M.trs.set j d).map et.nm=M.trs.map et.nm:=d8 g et.nm h1;refine{h with tn:=by rw[r];exact h.tn,la:=λl s=>?_,tr:=λx f=>?_,tc:=by show(M.trs.set j d).length<=10;rw[vu];exact h.tc,br:=λx f=>?_}
 ·have q:=h.la l s;refine{q with own:=λk z u=>?_};rcases q.own k z u with e|⟨x,f,m,y,n,o⟩
  ·exact .inl e
  ·obtain⟨i,hi⟩:=k_.mp f
   by_cases e:i=j
   ·subst e;rw[g]at hi;cases hi;exact .inr ⟨d,h_ (kJ g),by rw[h2];exact m,y,by rw[h3];exact n,by rw[h1];exact o⟩
   ·exact .inr ⟨x,h_ (i:=i) (by rw[oD λz=>e z.symm];exact hi),m,y,n,o⟩
 ·rcases v1 f with q|rfl
  ·exact{h.tr x q with}
  ·have q:=h.tr t (h_ g);exact⟨by rw[h1];exact q.wd,by rw[h2];exact q.hm,by rw[h3];exact q.a1,by rw[h3];exact q.a4,by rw[h3];exact q.nd,by rw[h3];exact q.aw,by rw[h4];exact q.hg,by rw[h5];exact q.s8⟩
 ·rcases v1 f with q|rfl
  ·exact h.br x q
  ·exact p
theorem cP.setTr(h:cP P w K a H M Z c)(d:M.trs[j]?=some t)(h1:t'.nm=t.nm)(h0:t'.home=t.home)(h2:t'.arms=t.arms)(h3:t'.rule=t.rule)(h4:t'.shuts=t.shuts)(f:t'.bar.length<=c)(e:(r0=.tr j/\t'.bar=t.bar)\/(r0=.ba j/\t'.home=t.home/\t'.pau=t.pau/\t'.clo=t.clo))(i:cont P w a (M.setT j t') Z r0=some o'):cP P w K a (az H (Z.G r0) o') (M.setT j t') Z c/\fH H M Z (az H (Z.G r0) o') (M.setT j t') Z:=by refine⟨⟨h.g.setTr d h1 h2 h3 h4 e i,h.ok.setT d h1 h0 h2 h3 h4 f,h.tk,h.ow,h.ds⟩,fH.put ?_ rfl rfl (vu ..) rfl λx k=>.inl k⟩;have hi:=(d_.mp d).1;rcases e with⟨rfl,_⟩|⟨rfl,_⟩<;>exact hi
end
theorem xv{S:AS}:∀{W:Wl},(∀x∈W,x.2=0)->j9 S W<=0|[],_=>QY _|x::r,h=>by rw[B7,h x l_];have:=xv (S:=S) (W:=r) λy b=>h y (kw _ b);lia
def pU:ca:=fF "" ""
def Ha(M:bG)(i:Nat)(l:cD)(z:Int):bG:=M.setL i {l with S:=de M.p (cH l.S [(pU,z)]) [(pU,z)]}
def oX(t:et):List Int:=List.replicate t.arms.length 0
inductive LH(P:RH)(w:World)(K:RC)(a:jl)(vs:List V)(H:Hp)(Q:VK)(E:XK):Prop|mk(M:bG)(Z:ZS)(c i:Nat)(l:cD)(z:Int)(_:vs=[.ref (Z.G .hh),.str l.nm,.int z])(_:cP P w K a H M Z c)(_:c<=99)(_:M.las[i]?=some l)(_:0<=z)(_:(j9 l.S [(pU,z)]<=((pW M.p l.S.oc).length:Int)->∀(r:Addr)(Z':ZS)(H':Hp),fH H M Z H' (Ha M i l z) Z'->cP P w K a H' (Ha M i l z) Z' (c+1)->H r=none->H' r=some (.lst [])->Z'.ds=Z.ds->Q (.ref r) H'))(_:(((pW M.p l.S.oc).length:Int)<j9 l.S [(pU,z)]->∀H',ao H H'->E (.ref a.mO) none H'))
inductive IR(P:RH)(w:World)(K:RC)(a:jl)(vs:List V)(H:Hp)(Q:VK)(E:XK):Prop|mk(M:bG)(Z:ZS)(c j:Nat)(t:et)(b:Bool)(_:vs=[.ref (Z.G .hh),.str t.nm,.bl b])(_:cP P w K a H M Z c)(_:M.trs[j]?=some t)(_:∀(r:Addr)(H':Hp),fH H M Z H' (M.setT j {t with pau:=b}) Z->cP P w K a H' (M.setT j {t with pau:=b}) Z c->H r=none->H' r=some (.lst [])->Q (.ref r) H')
inductive IZ(P:RH)(w:World)(K:RC)(a:jl)(vs:List V)(H:Hp)(Q:VK)(E:XK):Prop|mk(M:bG)(Z:ZS)(c i j:Nat)(l:cD)(t:et)(_:vs=[.ref (Z.G .hh),.str t.nm])(_:cP P w K a H M Z c)(_:c<=99)(_:M.trs[j]?=some t)(_:M.las[i]?=some l)(_:l.nm=t.home)(_:∀(r:Addr)(us:List V)(Z':ZS)(H':Hp),fH H M Z H' (on (M.setT j {t with clo:=true}) i l {t with clo:=true} (oX t)) Z'->cP P w K a H' (on (M.setT j {t with clo:=true}) i l {t with clo:=true} (oX t)) Z' (c+1)->H r=none->H' r=some (.lst us)->Z'.ds=Z.ds->Q (.ref r) H')
section
def qT(T:Txt K mg a):aP P w K mg base (yd P w) 4 a.dz.x a.dz.d ["self","name","number"] (LH P w K a):=by
 refine T.dz.okE qI λas A outer s H vs Q E u h=>?_
 ·obtain⟨M,Z,c,i,l,z,rfl,f,hc,j,hz,q,qe⟩:=h;refine⟨_,(ag (aN (bw (aI K rfl (eC (cj u) (aI K rfl (Y 0)) (Y 1) (λ_ _=>rfl))) T.bv T.dR.m ((nO (P:=P) (w:=w) T).mono (by decide)) u T.dR.b .nil iD (ac (bg (ac (bF (ac (cA (v:=.ref a.vO) ⟨_,T.GQ,rfl⟩ rfl) (ac (Y 2) ae))) ae)) ae))) (ah (ax (bg ae)))),?_⟩
  have hL:=f.ok.la l (h_ j);obtain⟨m,y,a2⟩:=f.g.tab j;obtain⟨a3,I⟩:=y.ins;refine jS f.g.house T.aF T.aX rfl rfl (U rfl (rG (.ref (Z.G (.lo i))) (by rw[<-f.ok.lget (Z:=Z) j];exact d0.k (k:=.inr l.nm) f.g.lays) ?_));refine rF (f.g.layer j) T.cg T.gm rfl (rM I rfl ?_);refine U rfl ⟨ls rfl,λe J=>⟨ls rfl,λD hD=>?_⟩⟩;have F:=ai (o:=.lst [.ref e]) (ai (o:=.tup [.ref a.vO,.int z]) (ao.refl H) J) hD;have e5:az (az H e (.tup [.ref a.vO,.int z])) D (.lst [.ref e]) D=some (.lst [.ref e]):=O;have e4:az (az H e (.tup [.ref a.vO,.int z])) D (.lst [.ref e]) e=some (.tup [.ref a.vO,.int z]):=by rw[am (aD O hD)];exact O
  generalize az (az H e (.tup [.ref a.vO,.int z])) D (.lst [.ref e])=H2 at F e4 e5⊢;have n:=f.same F;obtain⟨m2,t,B⟩:=n.g.tab j;have a5:=f.tk i;have a6:=f.ow i;have hp:=f.ok.p;refine⟨Z.G (.tb i),Z.G (.od i),Z.G (.td i),D,M.p,Z.ow i,Z.tk i,m2,l.S,[(pU,z)],[.ref e],rfl,t,B,(n.g.tabs i l j).2.2.1,hL.ok,e5,.cons ⟨e,.ref a.vO,rfl,aT.of e4,a.vO,rfl,T.Dr.sq _⟩ .nil,λx L=>by rw[List.mem_singleton.mp L];exact hz,by simp,by simp,by lia,by lia,by lia,λN lb a7 a8 m' R off V W X ba ap nw nl b1 b2=>?_,λaa R s3=>qe aa R (F.trans s3)⟩;obtain⟨Z3,ad,al,an,eG⟩:=n.told j off V W X nw b1 b2 (lq _ (jG _ hL.ok)) λk x L=>by
   rcases mh L with h|h
   ·exact .inl ⟨x,mJ h⟩
   ·exact .inr (.inl (List.mem_singleton.mp h))
  refine⟨ls rfl,λr u=>?_⟩;have s4:=ai (o:=.lst []) (ao.refl R) u;have C:=(fH.of F).trans al;exact q N r Z3 _ (C.trans (fH.of s4)) (ad.same s4) (C.dm _ u) O an
def j8(T:Txt K mg a):aP P w K mg base dI 1 a.ce.x a.ce.d ["self","name","paused"] (IR P w K a):=by
 refine T.ce.ok jZ λu A outer s H v Q E l h=>?_
 ·obtain⟨M,Z,c,j,t,b,rfl,e,f,q⟩:=h;refine⟨_,(ag (bf 3 jZ.nd (eC (cj l) (aI K rfl (Y 0)) (Y 1) (λ_ _=>rfl))) (ag (cw K rfl (Y 3) (Y 2)) (ah (ax (bg ae))))),?_⟩
  have m:=e.g.trial f;refine jS e.g.house T.aF T.a9 rfl rfl (U rfl (rG (.ref (Z.G (.tr j))) (by rw[<-e.ok.tget (Z:=Z) f];exact d0.k (k:=.inr t.nm) e.g.tris) (aq ?_)));refine U rfl (U rfl ⟨Z.G (.tr j),_,_,U rfl ⟨m,T.be,T.iV,by simp,?_⟩⟩);obtain⟨n,i⟩:=e.setTr (t':={t with pau:=b}) (r0:=.tr j) f rfl rfl rfl rfl rfl (e.ok.br t (h_ f)) (.inl ⟨rfl,rfl⟩) (by simp only[cont,kJ f];rfl);refine⟨ls rfl,λr l=>?_⟩;have p:=ai (o:=.lst []) (ao.refl _) l;exact q r _ (i.trans (fH.of p)) (n.same p) (i.dm _ l) O
def pN(T:Txt K mg a):aP P w K mg base (yd P w) 5 a.cZ.x a.cZ.d ["self","name"] (IZ P w K a):=by
 refine T.cZ.okE j3 λas A outer s H vs Q E z h=>?_
 ·obtain⟨M,Z,c,i,j,l,t,rfl,f,hc,n,hl,hh,q⟩:=h;refine⟨_,(ag (bf 2 j3.nd (eC (cj z) (aI K rfl (Y 0)) (Y 1) (λ_ _=>rfl))) (ag (cw K rfl (Y 2) fc) (ah (ax (bw (Y 0) T.aF T.bE.m ((gj (P:=P) (w:=w) T).mono (by decide)) z T.bE.b .nil iD (ac (Y 1) (ac (av Gg (bg (ac af ae)) (au (aG K rfl) (by rfl) T.bp L2.aH (ac (aI K rfl (Y 2)) ae))) ae))))))),?_⟩
  have B:=f.g.trial n;refine jS f.g.house T.aF T.a9 rfl rfl (U rfl (rG (.ref (Z.G (.tr j))) (by rw[<-f.ok.tget (Z:=Z) n];exact d0.k (k:=.inr t.nm) f.g.tris) (aq ?_)));refine U rfl ⟨Z.G (.tr j),_,_,U rfl ⟨B,T.be,T.d6,by simp,?_⟩⟩;have u:=kJ (t':={t with clo:=true}) n;obtain⟨e,C⟩:=f.setTr (t':={t with clo:=true}) (r0:=.tr j) n rfl rfl rfl rfl rfl (f.ok.br t (h_ n)) (.inl ⟨rfl,rfl⟩) (by simp only[cont,kJ n];rfl);have D:=e.g.house;have F:=e.g.trial u;obtain⟨v,-,-⟩:=e.g.trs j _ u;refine pC D rfl rfl (U rfl ⟨ls rfl,λI J=>?_⟩);have L:=ai (o:=.lst [.int 0]) (ao.refl _) J;have e2:az (az H (Z.G (.tr j)) (.ins a.fq (Z.dx (.tr j)) [("home",.str t.home),("arms",.ref (Z.ar j)),("rule",Z.ru j),("shuts",.ref (Z.sh j)),("paused",.bl t.pau),("closed",.bl true),("barred",.ref (Z.G (.ba j)))])) I (.lst [.int 0]) I=some (.lst [.int 0]):=O;refine jS (L _ _ F) T.be T.iE rfl rfl ⟨_,t.arms.length,rfl,.inr ⟨_,ao.tseq L v,by simp⟩,I,_,U rfl ⟨rfl,e2,by exact j2 _,by have:=(f.ok.tr t (h_ n)).a4;lia,dn (by have:=(f.ok.tr t (h_ n)).a4;simp;exact mu this (lh rfl)),λg hg=>?_⟩⟩;have N:=ai (o:=.lst (List.replicate (t.arms.length:Int).toNat [V.int 0]).flatten) L hg;have e0:(List.replicate (t.arms.length:Int).toNat [V.int 0]).flatten=(oX t).map V.int:=by
   unfold oX;rw[pu,List.map_replicate];generalize t.arms.length=j
   induction j with|zero=>rfl|succ j ih=>rw[r_,Pz,ih,r_];rfl
  rw[e0]at N⊢;have R:∀x∈sx t.nm t.arms (oX t),x.2=0:=λx W=>by obtain⟨p,hp,rfl⟩:=mo.mp W;exact List.eq_of_mem_replicate (Qc hp).2
  have X:=xv (S:=l.S) R;refine⟨M.setT j {t with clo:=true},Z,c,i,j,l,{t with clo:=true},g,oX t,rfl,e.same N,hc,u,hl,hh,.inl (aO.of O),D_,λx W=>by rw[List.eq_of_mem_replicate W];exact QY _,λa2 r us Z' H4 aa ad z al an=>?_,λap=>absurd X (by show¬j9 l.S (sx t.nm t.arms (oX t))<=0;have:j9 l.S (sx t.nm t.arms (oX t))>_:=ap;lia)⟩;have y:=C.trans (fH.of N);exact q r us Z' H4 (y.trans aa) ad (y.dm _ z) al an
end
def fE(bs:RI)(g:Str):List Str:=if g∈bs then bs else bs++[g]
def F9(bs:RI)(g:Str):c7 (bs.map λg=>((.inr g:bL),V.bl true)) (.inr g) (.bl true)=(fE bs g).map λg=>((.inr g:bL),V.bl true):=by
 unfold fE
 by_cases h:g∈bs
 ·rw[i_ h];unfold c7;rw[i_ (by rw[List.any_map,QD];exact⟨g,h,by simp⟩),t_];refine PN λx _=>?_;show(if((.inr x:bL))=.inr g then((.inr x:bL),V.bl true)else _)=_
  split<;>rfl
 ·rw[ir h,pE,il]
  ·rfl
  ·have:∀cs:List Str,g∉cs->aW (cs.map λg=>((.inr g:bL),V.bl true)) (.inr g)=none:=by
    intro cs
    induction cs with|nil=>intro _;rfl|cons x r b=>intro hn;rw[np,bH λe=>hn (by rw[<-ro e];exact l_)];exact b λz=>hn (kw _ z)
   exact this bs h
theorem Gw:∀{l:List d},(l.map f).Nodup->∀x∈l,∀y∈l,f x=f y->x=y
 |[],_,x,b,_,_,_=>nomatch b|z::r,h,x,b,y,c,e=>by
  rw[np,Ry]at h;rcases pv.mp b with q|q<;>rcases pv.mp c with p|p
  ·rw[q,p]
  ·exact absurd (mo.mpr ⟨y,p,by rw[<-e,q]⟩) h.1
  ·exact absurd (mo.mpr ⟨x,q,by rw[e,p]⟩) h.1
  ·exact Gw h.2 x q y p e
def Bp(l:cD)(t:et)(g:Str):List Str:=if∃x∈l.ins,x.1=g/\x.2.1=t.nm then[g]else[]
def CQ(M:bG)(i j:Nat)(l:cD)(t:et)(g:Str):bG:=(M.setT j {t with bar:=fE t.bar g}).setL i {l with ins:=c8 l.ins (Bp l t g)}
inductive NU(P:RH)(w:World)(K:RC)(a:jl)(vs:List V)(H:Hp)(Q:VK)(E:XK):Prop|mk(M:bG)(Z:ZS)(c i j:Nat)(l:cD)(t:et)(g:Str)(_:vs=[.ref (Z.G .hh),.str g,.str t.nm])(_:cP P w K a H M Z c)(_:c<=99)(_:M.trs[j]?=some t)(_:M.las[i]?=some l)(_:l.nm=t.home)(_:Bw g)(_:∀(r:Addr)(us:List V)(Z':ZS)(H':Hp),fH H M Z H' (CQ M i j l t g) Z'->cP P w K a H' (CQ M i j l t g) Z' (c+1)->H r=none->H' r=some (.lst us)->Z'.ds=Z.ds->Q (.ref r) H')
section
def tN(T:Txt K mg a):aP P w K mg base dI 2 a.dY.x a.dY.d ["self","guest","name"] (NU P w K a):=by
 refine T.dY.ok iO λa3 A outer s H vs Q E n h=>?_
 ·obtain⟨M,Z,c,i,j,l,t,g,rfl,p,hc,B,C,hh,hg,q⟩:=h;refine⟨_,(ag (bf 3 iO.nd (eC (cj n) (aI K rfl (Y 0)) (Y 2) (λ_ _=>rfl))) (ag (bf 4 iO.nd (eC (cj n) (aI K rfl (Y 0)) (aI K rfl (Y 3)) (λ_ _=>rfl))) (ag (iS fc (iU (aI K rfl (Y 3)) (Y 1) (lw (cj n)))) (ag (aJ (PW.pt (qN (qO (BW (cj n) (Y 1) (aI K rfl (Y 4))) rfl) (mV (aC aS (cS K (eC (cj n) (aI K rfl (Y 4)) (Y 1) (λ_ _=>rfl)) af) (Y 2) (aE _))))) (ah (ax (bw (Y 0) T.aF T.cx.m ((kQ (P:=P) (w:=w) T).mono (by decide)) n T.cx.b .nil bx (ac (Y 4) (ac (bg (ac (Y 1) ae)) ae))))) aA) (ah (ax (bg ae))))))),?_⟩
  have ad:=h_ B;have hL:=p.ok.la l (h_ C);have D:=p.g.trial B;have F:=p.ok.lget (Z:=Z) C;rw[hh]at F;refine jS p.g.house T.aF T.a9 rfl rfl (U rfl (rG (.ref (Z.G (.tr j))) (by rw[<-p.ok.tget (Z:=Z) B];exact d0.k (k:=.inr t.nm) p.g.tris) (aq ?_)));refine jS p.g.house T.aF T.aX rfl rfl (jS D T.be T.kx rfl rfl (rG (.ref (Z.G (.lo i))) (by rw[<-F];exact d0.k (k:=.inr t.home) p.g.lays) (aq ?_)));have I:=p.ok.br t ad;refine jS D T.be T.iW rfl rfl (U rfl ⟨Z.G (.ba j),_,.inr g,rfl,rfl,p.g.barred B,by rw[c_,j1];lia,?_⟩);rw[F9];have a5:=kJ (t':={t with bar:=fE t.bar g}) B;obtain⟨f,v⟩:=(p.mono (rk c)).setTr (t':={t with bar:=fE t.bar g}) (r0:=.ba j) (o':=.dK ((fE t.bar g).map λg=>((.inr g:bL),V.bl true))) B rfl rfl rfl rfl rfl (by show(fE t.bar g).length<=c+1;unfold fE;split;exact y_ I;rw[iA];exact tx I) (.inr ⟨rfl,rfl,rfl,rfl⟩) (by simp only[cont,kJ B];rfl);generalize az H (Z.G (.ba j)) (.dK ((fE t.bar g).map λg=>((.inr g:bL),V.bl true)))=H1 at f v⊢;have J:=f.g.layer C;have L:=f.g.inside C;have N:=f.g.seats i l C;refine U rfl (jS J T.cg T.bQ rfl rfl (rG (aW (Z.iv i) (.inr g)) (d0.k (k:=.inr g) L) (U rfl ?_)));have u:Bp l t g=[]->∀r,H1 r=none->Q (.ref r) (az H1 r (.lst [])):=λe r n=>by
   have R:=ai (o:=.lst []) (ao.refl _) n;have em:CQ M i j l t g=M.setT j {t with bar:=fE t.bar g}:=by unfold CQ;rw[e,lP];exact mT (M:=M.setT j {t with bar:=fE t.bar g}) C
   exact q r [] Z _ (em▸v.trans (fH.of R)) (em▸f.same R) (v.dm _ n) O rfl
  by_cases z:g∈l.ins.map (·.1)
  ·obtain⟨x,hx,ex⟩:=mo.mp z;obtain⟨s,hv,al⟩:=N.find hL.nd x hx;rw[ex]at hv;rw[hv];refine bI (jS J T.cg T.bQ rfl rfl (U rfl (rG (.ref s) (by rw[<-hv];exact d0.k (k:=.inr g) L) (rX al (ak (k:=0) rfl) (U rfl ⟨rfl,U rfl ?_⟩)))))
   by_cases hq:x.2.1=t.nm
   ·have S:Bp l t g=[g]:=i_ ⟨x,hx,ex,hq⟩;rw[hq];refine bO (pC f.g.house rfl rfl (U rfl (U rfl ⟨ls rfl,λDg an=>?_⟩)));have R:=ai (o:=.lst [.str g]) (ao.refl _) an;refine⟨M.setT j {t with bar:=fE t.bar g},Z,c+1,i,l,Dg,[g],rfl,f.same R,C,O,λy W=>by rw[List.mem_singleton.mp W];exact z,by simp,by simp,λr us Z6 H6 ap as n a2 X=>?_⟩;have em:CQ M i j l t g=(M.setT j {t with bar:=fE t.bar g}).setL i {l with ins:=c8 l.ins [g]}:=by unfold CQ;rw[S]
    have aa:=v.trans (fH.of R);exact q r us Z6 H6 (em▸aa.trans ap) (em▸as) (aa.dm _ n) a2 X
   ·have S:Bp l t g=[]:=ir λ⟨y,W,e1,e2⟩=>hq (by rw[<-Gw hL.nd y W x hx (e1.trans ex.symm)];exact e2)
    refine mR hq ⟨ls rfl,u S⟩
  ·have S:Bp l t g=[]:=ir λ⟨y,W,e1,e2⟩=>z (mo.mpr ⟨y,W,e1⟩);rw[N.none z];exact b0 ⟨ls rfl,u S⟩
end
def zE(M:bG)(nm:Str)(sl:Int):bG:={M with las:=M.las++[⟨nm,sl,AS.new,[]⟩]}
def zD(M:bG)(t:et):bG:={M with trs:=M.trs++[t]}
section
variable{P:RH}{w:World}{K:RC}{a:jl}{H b:Hp}{M:bG}{Z:ZS}{c:Nat}
def nu.addL(h:nu M c){nm:Str}{sl:Int}(g:Wd nm)(hn:nm∉M.las.map cD.nm)(i:0<=sl/\sl<=M.p)(h4:M.las.length<4):nu (zE M nm sl) c:=by
 have em:(M.las++[(⟨nm,sl,AS.new,[]⟩:cD)]).map cD.nm=M.las.map cD.nm++[nm]:=by rw[il];rfl
 refine{h with ln:=?_,la:=λl j=>?_,tr:=λt f=>{h.tr t f with hm:=?_},l4:=by show(M.las++[_]).length<=4;rw[iA];exact h4}
 ·show((M.las++[(⟨nm,sl,AS.new,[]⟩:cD)]).map cD.nm).Nodup;rw[em,qx];exact⟨h.ln,by simp,λx d y m e=>hn (by rw[<-List.mem_singleton.mp m,<-e];exact d)⟩
 ·rcases Rz.mp j with q|q
  ·exact{h.la l q with}
  ·rw[List.mem_singleton.mp q];exact⟨g,i,AS.new_ok _,m_ _,λx d=>(nomatch d),Qk,λk q n=>(nomatch n)⟩
 ·show t.home∈(M.las++[(⟨nm,sl,AS.new,[]⟩:cD)]).map cD.nm;rw[em];exact tA _ (h.tr t f).hm
def nu.addT(h:nu M c){t:et}(ok:KA M t)(hn:t.nm∉M.trs.map et.nm)(h4:M.trs.length<10)(f:t.bar=[]):nu (zD M t) c:=by
 refine{h with tn:=?_,la:=λl g=>?_,tr:=λx d=>?_,tc:=by show(M.trs++[_]).length<=10;rw[iA];exact h4,br:=λx d=>?_}
 ·show((M.trs++[t]).map et.nm).Nodup;rw[il,qx];exact⟨h.tn,by simp,λx d y i e=>hn (by rw[<-show y=t.nm from List.mem_singleton.mp i,<-e];exact d)⟩
 ·have q:=h.la l g;refine{q with own:=λk z j=>?_};rcases q.own k z j with e|⟨x,d,e⟩
  ·exact .inl e
  ·exact .inr ⟨x,tA _ d,e⟩
 ·rcases Rz.mp d with q|q
  ·exact{h.tr x q with}
  ·rw[List.mem_singleton.mp q];exact{ok with}
 ·rcases Rz.mp d with q|q
  ·exact h.br x q
  ·rw[List.mem_singleton.mp q,f];exact m_ _
end
inductive Ec(P:RH)(w:World)(K:RC)(a:jl)(vs:List V)(H:Hp)(Q:VK)(E:XK):Prop|mk(M:bG)(Z:ZS)(c:Nat)(nm:Str)(sl:Int)(_:vs=[.ref (Z.G .hh),.str nm,.int sl])(_:cP P w K a H M Z c)(_:Wd nm)(_:nm∉M.las.map cD.nm)(_:(0<=sl/\sl<=M.p))(_:M.las.length<4)(_:∀(r:Addr)(Z':ZS)(H':Hp),fH H M Z H' (zE M nm sl) Z'->cP P w K a H' (zE M nm sl) Z' c->H r=none->H' r=some (.lst [])->Z'.ds=Z.ds->Q (.ref r) H')
inductive Eb(P:RH)(w:World)(K:RC)(a:jl)(vs:List V)(H:Hp)(Q:VK)(E:XK):Prop|mk(M:bG)(Z:ZS)(c:Nat)(H0:Hp)(t ba dx ar sh:Addr)(ru:V)(x:et)(_:vs=[.ref (Z.G .hh),.str x.nm,.ref t])(_:cP P w K a H0 M Z c)(_:ao H0 H)(_:H0 t=none)(_:H0 ba=none)(_:H ba=some (.dK []))(_:H t=some (.ins a.fq dx [("home",.str x.home),("arms",.ref ar),("rule",ru),("shuts",.ref sh),("paused",.bl false),("closed",.bl false),("barred",.ref ba)]))(_:aT K H0 ar (x.arms.map V.str))(_:eY K H0 x.rule ru)(_:aT K H0 sh (x.shuts.map V.str))(_:x.pau=false)(_:x.clo=false)(_:x.bar=[])(_:KA M x)(_:x.nm∉M.trs.map et.nm)(_:M.trs.length<10)(_:∀(r:Addr)(Z':ZS)(H':Hp),fH H0 M Z H' (zD M x) Z'->cP P w K a H' (zD M x) Z' c->H0 r=none->H' r=some (.lst [])->Z'.ds=Z.ds->Q (.ref r) H')
section
def pM(T:Txt K mg a):aP P w K mg base dI 5 a.cY.x a.cY.d ["self","name","slope"] (Ec P w K a):=by
 refine T.cY.ok py λaa A outer s H vs Q E j h=>?_
 ·obtain⟨M,Z,c,nm,sl,rfl,t,hw,hn,hs,h4,q⟩:=h;refine⟨_,(ag (iS (t7 T.GE ((tM (P:=P) (w:=w) T).mono (by decide)) j rfl T.JQ T.dX.b .nil bx (ac (Y 2) (ac (aI K rfl (Y 0)) ae))) (iU (aI K rfl (Y 0)) (Y 1) (lw (cj j)))) (ah (ax (bg ae)))),?_⟩
  have X:=t.g.house;refine U rfl (jS X T.aF T.cQ rfl rfl (λlo ty l F ad=>?_));have f2:ao H (az (az H ty (.own lo)) lo (.ins a.eQ ty [])):=λb o e=>by rw[am (aD e l),am (aD e F)];exact e
  have m:az (az H ty (.own lo)) lo (.ins a.eQ ty []) lo=some (.ins a.eQ ty []):=O;generalize az (az H ty (.own lo)) lo (.ins a.eQ ty [])=H2 at f2 m⊢;refine⟨lo,ty,sl,M.p,rfl,m,λtb od td iu I u J L N R f3 hL S hu=>⟨rfl,?_⟩⟩;have f:ao H I:=λb o e=>f3 b o (f2 b o e) (aD e l);refine jS (f _ _ X) T.aF T.aX rfl rfl (U rfl ⟨Z.G .ln,_,.inr nm,rfl,rfl,f _ _ t.g.lays,by rw[jc,c_,j1];exact n0 h4 (lh rfl),?_⟩);rw[pE _ (mE hn)];have v:∀b,H b=none->b≠Z.G .ln:=λb e z=>by rw[z,t.g.lays]at e;cases e
  have y:=f2.free J;have B:=f2.free L;have C:=f2.free u;have D:=f2.free N;obtain⟨dT,iT⟩:=S.ins;obtain⟨Z',e1,V,e2,W,e4,hG,lv⟩:=t.g.newL (H':=az I (Z.G .ln) (.dK (jT (M.las.map cD.nm) (λi=>.ref (Z.G (.lo i)))++[(.inr nm,.ref lo)]))) (nm:=nm) (sl:=sl) l D C y B R (λb o e n=>by rw[am n];exact f b o e) O (by rw[am (v _ l)];exact hL) ⟨⟨dT,by rw[am (v _ C)];exact iT⟩,by rw[am (v _ y)];exact S.own,by rw[am (v _ B)];exact S.tak,λx k=>(nomatch k),.nil⟩ (λz=>by rw[z,u]at m;cases m) (by rw[am (v _ D)];exact hu)
  refine⟨ls rfl,λr j=>?_⟩;have s5:=ai (o:=.lst []) (ao.refl _) j;have st:fH H M Z (az I (Z.G .ln) (.dK (jT (M.las.map cD.nm) (λi=>.ref (Z.G (.lo i)))++[(.inr nm,.ref lo)]))) (zE M nm sl) Z':=by
   refine⟨e1,λb o e n=>by rw[am λz=>n (.inl ⟨.ln,trivial,z⟩)];exact f b o e,λb z=>?_,λb z=>f.free (mD z),V⟩;rcases z with⟨r,j,rfl⟩|⟨i,hi,x,k,e⟩|⟨x,k,e⟩
   ·have j:xf (M.las++[_]).length M.trs.length r:=j;rw[iA]at j;rcases lv r j with q|⟨q,p⟩
    ·exact .inr q
    ·exact .inl (.inl ⟨r,p,q⟩)
   ·rw[(W i).1]at k;have hi:i<(M.las++[_]).length:=hi;rw[iA]at hi
    by_cases z:i=M.las.length
    ·rw[i_ z]at k;cases k
    ·rw[ir z]at k;exact .inl (.inr (.inl ⟨i,by have:i<M.las.length+1:=hi;lia,x,k,e⟩))
   ·rw[e4]at k;exact .inl (.inr (.inr ⟨x,k,e⟩))
  refine q r Z' _ (st.trans (fH.of s5)) (cP.same ⟨hG,t.ok.addL hw hn hs h4,λi=>?_,λi=>?_,by rw[e2];exact t.ds⟩ s5) (st.dm _ j) O e2
  ·rw[(W i).1]
   split
   ·exact m_ _
   ·exact t.tk i
  ·rw[(W i).2]
   split
   ·exact m_ _
   ·exact t.ow i
def pL(T:Txt K mg a):aP P w K mg base dI 4 a.cX.x a.cX.d ["self","name","trial"] (Eb P w K a):=by
 refine T.cX.ok px λV A outer s H vs Q E f h=>?_
 ·obtain⟨M,Z,c,C,t,ba,dx,ar,sh,ru,x,rfl,j,k,l,m,W,X,q1,q2,q3,D,F,v,ok,hn,h10,q⟩:=h;refine⟨_,(ag (iS (Y 2) (iU (aI K rfl (Y 0)) (Y 1) (lw (cj f)))) (ah (ax (bg ae)))),?_⟩
  refine U rfl (jS (k _ _ j.g.house) T.aF T.a9 rfl rfl (U rfl ⟨Z.G .tn,_,.inr x.nm,rfl,rfl,k _ _ j.g.tris,by rw[jc,c_,j1];exact n0 h10 (lh rfl),?_⟩));rw[pE _ (mE hn)];have I:∀b,C b=none->b≠Z.G .tn:=λb e z=>by rw[z,j.g.tris]at e;cases e
  obtain⟨J,e1,B,L,N,e4,e5,R,lv⟩:=j.g.newT (H':=az H (Z.G .tn) (.dK (jT (M.trs.map et.nm) (λi=>.ref (Z.G (.tr i)))++[(.inr x.nm,.ref t)]))) (nm:=x.nm) (home:=x.home) (arms:=x.arms) (shuts:=x.shuts) (rule:=x.rule) l m (λb o e n=>by rw[am n];exact k b o e) O (by rw[am (I _ l)];exact X) (by rw[am (I _ m)];exact W) q1 q2 q3;have ex:(⟨x.nm,x.home,x.arms,x.rule,x.shuts,false,false,[]⟩:et)=x:=by obtain⟨a1,a2,a3,a4,a5,a6,a7,a8⟩:=x;simp only at D F v;rw[D,F,v]
  rw[ex]at R;refine⟨ls rfl,λr f=>?_⟩;have S:=ai (o:=.lst []) (ao.refl _) f;have st:fH C M Z (az H (Z.G .tn) (.dK (jT (M.trs.map et.nm) (λi=>.ref (Z.G (.tr i)))++[(.inr x.nm,.ref t)]))) (zD M x) J:=by
   refine⟨e1,λb o e n=>by rw[am λz=>n (.inl ⟨.tn,trivial,z⟩)];exact k b o e,λb z=>?_,λb z=>k.free (mD z),B⟩;rcases z with⟨r,f,rfl⟩|⟨i,hi,y,u,e⟩|⟨y,u,e⟩
   ·have f:xf M.las.length (M.trs++[_]).length r:=f;rw[iA]at f;rcases lv r f with q|⟨q,p⟩
    ·exact .inr q
    ·exact .inl (.inl ⟨r,p,q⟩)
   ·rw[N]at u;exact .inl (.inr (.inl ⟨i,hi,y,u,e⟩))
   ·rw[e5]at u;exact .inl (.inr (.inr ⟨y,u,e⟩))
  exact q r J _ (st.trans (fH.of S)) (cP.same ⟨R,j.ok.addT ok hn h10 v,λi=>by rw[N];exact j.tk i,λi=>by rw[e4];exact j.ow i,by rw[L];exact j.ds⟩ S) (st.dm _ f) O L
end
section
def pI(T:Txt K mg a):aP P w K mg base dI 1 a.cU.x a.cU.d ["self","place"] (D9 P w K a.bN):=by
 refine T.cU.ok pj λc A outer s H i Q E e h=>?_
 ·obtain⟨t,f,j,n,ow,tk,m,p,rfl,b,q⟩:=h;refine⟨_,(ah (ax (uR (cj e) (aI K rfl (Y 0)) (Y 1) ⟨rfl,rfl,rfl,rfl⟩))),?_⟩;obtain⟨dx,g⟩:=b.ins;exact U rfl ⟨t,_,dx,_,U rfl ⟨g,T.bv,T.d7,rfl,f,rfl,.inl ⟨_,.inl b.own⟩,U rfl ⟨_,d0.k (k:=.inl p) b.own,q⟩⟩⟩
end
def KK(h:Wd x):PyData.strOk x=true:=by
 obtain⟨_,_,h⟩:=h;unfold PyData.strOk;rw[<-Array.all_toList,List.all_eq_true];intro c hc;have b:∀c∈va.cps.toList,decide (c<1114112)=true:=by decide+kernel
 have:=lh (b c (h c hc));simp;lia
structure t4(P:RH)(w:World)(K:RC)(a:jl)(H0 H:Hp)(M:bG)(Z:ZS)(c:Nat):Prop where
 z:cP P w K a H0 M Z c
 k:∀b o,H0 b=some o->b≠Z.G .ln->H b=some o
section
variable{P:RH}{w:World}{K:RC}{a:jl}{d H f:Hp}{M:bG}{Z:ZS}{c:Nat}
def t4.same(h:t4 P w K a d H M Z c)(s:ao H f):t4 P w K a d f M Z c:=⟨h.z,λb o e n=>s _ _ (h.k b o e n)⟩
def t4.kp(h:t4 P w K a d H M Z c):Kp d H:=⟨λu i e=>h.k _ _ e λz=>(by rw[z,h.z.g.lays]at e;cases e),λu o⟨b,e⟩=>⟨b,h.k _ _ e λz=>by rw[z,h.z.g.lays]at e;cases e⟩⟩
theorem t4.at_(h:t4 P w K a d H M Z c)(e:cont P w a M Z r=some o)(n:r≠.ln):H (Z.G r)=some o:=h.k _ _ (h.z.g.at_ r o e) λz=>n (h.z.g.inj r .ln _ _ e rfl z)
def L0{p:Nat}{m sl:Int}{x:Str}(b:2<=p):0<=wy p m sl x/\wy p m sl x<p:=by
 unfold wy;have h:(0:Int)<(p:Int):=by lia
 split
 ·exact⟨Qe _ (by lia),PY _ h⟩
 ·exact⟨Qe _ (by lia),PY _ h⟩
def t4.owner(h:t4 P w K a d H M Z c){i:Nat}{l:cD}(n:M.las[i]?=some l){q:Int}(r:0<=q)(s:q<M.p):(aW (Z.ow i) (.inl q)).getD .non=.non\/∃b x y,(aW (Z.ow i) (.inl q)).getD .non=.ref b/\aT K H b [.str x,.str y]/\((x=""/\y="")\/∃(j:Nat)(t:et),M.trs[j]?=some t/\t.nm=x/\(Wd y/\Wd t.nm/\y∈t.arms/\t.home=l.nm)):=by cases u:aW (Z.ow i) (.inl q)with|none=>exact .inl rfl|some v=>
  refine .inr ?_;obtain⟨k,A,kv⟩:=(h.z.g.tabs i l n).2.2.1 q v r s u;rcases(h.z.ok.la l (h_ n)).own k q A with rfl|⟨t,m,hh,y,o,rfl⟩
  ·obtain⟨b,rfl,e⟩:=kv;exact⟨b,_,U rfl ⟨h.kp.tq e,.inl ⟨rfl,rfl⟩⟩⟩
  ·obtain⟨b,rfl,e⟩:=kv;obtain⟨j,B⟩:=k_.mp m;have tk:=h.z.ok.tr t m;exact⟨b,_,U rfl ⟨h.kp.tq e,.inr ⟨j,t,B,rfl,tk.aw y o,tk.wd,o,hh⟩⟩⟩
end
def Ks{cs:List Bool}(h:cs.any id=false){b:Bool}(m:b∈cs):b=false:=by cases b with|false=>rfl|true=>rw[QD.mpr ⟨true,m,rfl⟩]at h;cases h
inductive Lz(P:RH)(w:World)(K:RC)(a:jl)(vs:List V)(H:Hp)(Q:VK)(E:XK):Prop|mk(H0:Hp)(M:bG)(Z:ZS)(c i:Nat)(l:cD)(g:Str)(mv:V)(ms:List (Str×Int))(bl:Addr)(bs:RI)(_:vs=[.ref (Z.G .hh),.ref (Z.G (.lo i)),.str g,mv,.ref bl])(_:t4 P w K a H0 H M Z c)(_:M.las[i]?=some l)(_:Bw g)(_:tZ K H ms mv)(_:ms.length<=8)(_:H bl=some (.lst (bs.map V.str)))(_:(∀H',ao H H'->Q .non H'))(_:∀(s:Addr)(t:et)(y:Str)(H':Hp),ao H H'->aT K H' s [.str t.nm,.str y]->t∈M.trs->y∈t.arms->t.home=l.nm->(∀n∈t.shuts,n∉bs)->Q (.ref s) H')
section
def pJ(T:Txt K mg a):aP P w K mg base dI 8 a.cV.x a.cV.d ["self","layer","guest","marks","been"] (Lz P w K a):=by
 refine T.cV.ok f9 λb8 A outer s H vs Q E W h=>?_
 ·obtain⟨H0,M,Z,c,i,l,g,mv,ms,bl,bs,rfl,I,L,hg,hm,b9,a7,X,qs⟩:=h;refine⟨_,(ag (bf 5 f9.nd (bw (aI K rfl (Y 1)) T.bv T.cU.m ((pI (P:=P) (w:=w) T).mono (by decide)) W T.cU.b .nil bx (ac (bw (Y 0) T.aF T.cb.m ((j6 (P:=P) (w:=w) T).mono (by decide)) W T.cb.b .nil bx (ac (Y 1) (ac (Y 2) ae))) ae))) (ag (aJ (PW.pt (fb (aC BX (Y 5) lM (aE _)) (dD (aC (Jy K rfl (Pi W)) (Y 5) (cA (v:=.ref a.vO) ⟨_,T.GQ,rfl⟩ rfl) (aE _))))) (ah (ax lM)) aA) (ag (bf 6 f9.nd (eC (cj W) (aI K rfl (Y 0)) (cS K (Y 5) af) (λ_ _=>rfl))) (ag (aJ (PW.pt (fb (aM K rfl (aI K rfl (Y 6)) (λ_=>rfl)) (fb (qO (BW (cj W) (Y 2) (aI K rfl (Y 6))) rfl) (dD (bZ (aM K rfl (bP ((AB T 6).mono (by decide)) W rfl T.dL.m T.dL.f.kp T.dL.b .nil bx (ac (aI K rfl (Y 6)) (ac (Y 3) ae))) (λ_=>rfl))))))) (ah (ax lM)) aA) (ag (aJ (aM K rfl (au (nq K rfl rfl) (by rfl) T.Dm L2.qa (ac (wb gU ["name"] [] [7] (aj eU) (ck 7) (iC K rfl (aI K rfl (Y 6))) (λcl C s₀ H₀ ex=>⟨(nz gU ["name"] 7),bY,(bW (oG K rfl) (Y 7) (Y 4) (by with_unfolding_all rfl))⟩)) ae)) (λ_=>rfl)) (ah (ax lM)) aA) (ah (ax (Y 5)))))))),?_⟩
  have N:=I.z;have hL:=N.ok.la l (h_ L);have hp:=N.ok.p;have a8:=hL.sl;have hI:=I.at_ (r:=.hh) rfl (by simp);have aa:=I.at_ (r:=.lo i) (by simp only[cont,L];rfl) (by simp);have ad:=I.at_ (r:=.tb i) (by simp only[cont,L];rfl) (by simp);have bb:=I.at_ (r:=.od i) (by simp only[cont,L];rfl) (by simp);have bc:=I.at_ (r:=.td i) (by simp only[cont,L];rfl) (by simp);have bd:=I.at_ (r:=.tn) rfl (by simp);refine jS aa T.cg T.gm rfl rfl (rM ad rfl (pC hI rfl rfl (U rfl (U rfl ⟨Z.G .hh,Z.G (.lo i),_,_,_,_,M.p,M.salt,l.sl,g,rfl,hI,rfl,rfl,aa,rfl,hg,⟨by lia,by lia⟩,⟨by exact a8.1,by lia⟩,λH1 q=>?_⟩))));obtain⟨bi,⟨m,bt,cc⟩,ci,cE⟩:=N.g.tabs i l L;have o:=I.same q;have al:eF P w K a.bN H1 (Z.G (.tb i)) (Z.G (.od i)) (Z.G (.td i)) M.p (Z.ow i) (Z.tk i) m:=⟨⟨_,q _ _ ad⟩,q _ _ bb,q _ _ bc,λx hx=>jF o.kp (bi x hx),bt.outs λx hx lb xs e1 e2=>o.k _ _ e2 λz=>by rw[z,N.g.lays]at e2;cases e2⟩;have hq:=L0 (m:=M.salt) (sl:=l.sl) (x:=g) hp.1;refine⟨Z.G (.tb i),Z.G (.od i),Z.G (.td i),M.p,Z.ow i,Z.tk i,m,wy M.p M.salt l.sl g,rfl,al,aq ?_⟩;rcases o.owner L hq.1 hq.2 with e|⟨b,x,y,e,hb,an⟩
  ·rw[e];exact U rfl ⟨rfl,U rfl (bI (bI (X _ q)))⟩
  rw[e];refine U rfl ⟨rfl,U rfl (b0 ?_)⟩;have ap:PyData.strOk x=true/\PyData.strOk y=true:=by
   rcases an with⟨rfl,rfl⟩|⟨j,t,R,rfl,h1,h2,_⟩
   ·exact⟨by decide+kernel,by decide+kernel⟩
   ·exact⟨KK h2,KK h1⟩
  refine U rfl ⟨.tuple [.str x,.str y],.tuple [.str "",.str ""],.tup hb (.cons (.str x) (.cons (.str y) .nil)),.tup (T.Dr.sq _) (.cons (.str _) (.cons (.str _) .nil)),?_,by decide+kernel,U rfl ?_⟩
  ·unfold SeqAt.shaped;simp[PyData.canLay0,PyData.canLayAll0,PyData.depth,PyData.depthAll,ap.1,ap.2]
  refine y9 (λ_=>X _ q) (λef=>?_);rcases an with⟨rfl,rfl⟩|⟨j,t,R,rfl,_,_,hy,hh⟩
  ·exact absurd ef (by decide+kernel)
  have as:=q _ _ bd;have J:=o.at_ (r:=.tr j) (by simp only[cont,R];rfl) (by simp);have bu:=o.at_ (r:=.ba j) (by simp only[cont,R];rfl) (by simp);obtain⟨-,bz,a2⟩:=N.g.trs j t R;have a3:=N.ok.tr t (h_ R);refine jS (q _ _ hI) T.aF T.a9 rfl rfl (U rfl (rX hb (ak (k:=0) rfl) (rG (.ref (Z.G (.tr j))) (by rw[<-N.ok.tget (Z:=Z) R];exact d0.k (k:=.inr t.nm) as) (aq ?_))));refine jS J T.be T.iV rfl rfl ⟨t.pau,rfl,?_⟩;refine y9 (λ_=>bI (X _ q)) (λ_=>?_);refine U rfl (jS J T.be T.iW rfl rfl (rG _ (d0.k (k:=.inr g) bu) (U rfl ?_)));refine y9 (λ_=>bI (X _ q)) (λ_=>?_);refine jS J T.be T.nQ rfl rfl (U rfl ⟨t.rule,Z.ru j,ms,mv,rfl,bz.kp o.kp,a3.hg,hm.kp (.of q),by lia,λH2 s2=>(U rfl ?_)⟩);have u:=q.trans s2;refine y9 (λ_=>X _ u) (λ_=>?_);have a5:=I.same u;refine jS (s2 _ _ J) T.be T.mF rfl rfl ⟨Z.sh j,rfl,⟨_,a5.kp.tq a2⟩,λD hD=>?_⟩;have a6:=u _ _ a7;have h8:=a3.s8;refine gt (K:=K) (a:=Z.sh j) (xs:=t.shuts.map V.str) (λk B H'=>ao H2 H'/\H' D=some (.lst B)/\∃cs:List Bool,B=cs.map V.bl/\Paired (λ(b:Bool)(x:Str)=>b=false->x∉bs) cs (t.shuts.take k)) ⟨ai (ao.refl _) hD,O,[],rfl,.nil⟩ (λk B H' _ h=>ao.tseq h.1 (a5.kp.tq a2)) ?_ ?_
  ·rintro k v B H3 hv⟨s3,S,cs,rfl,F⟩;have hk:k<(t.shuts.map V.str).length:=(d_.mp hv).1;rw[ig]at hv;obtain⟨x,hx,rfl⟩:=Option.map_eq_some_iff.mp hv;have c0:cs.length<=k:=by rw[Paired.length F];exact PP _ _
   refine aq (jm (bI (U rfl (U rfl ⟨bl,U rfl ⟨.inl (aO.of (s3 _ _ a6)),rfl,mS bs,S,?_,lf hk ⟨a0 s3 hD,O,cs++[_],by rw[il];rfl,by rw[cu hx];exact qQ F (.cons (λe m=>by rw[G7 m]at e;cases e) .nil)⟩⟩⟩))));rw[c_]at hk⊢;rw[j1];lia
  ·rintro B H3⟨s3,S,cs,rfl,F⟩;refine⟨D,cs,rfl,aO.of S,U rfl ?_⟩;refine y9 (λ_=>X _ (u.trans s3)) (λea=>?_);rw[c_,ku (f_ _)]at F;refine U rfl (qs b t y _ (u.trans s3) (ao.tseq (s2.trans s3) hb) (h_ R) hy hh λn hn=>?_);obtain⟨i,hi⟩:=k_.mp hn;obtain⟨b',bK,b7⟩:=qP F i n hi;exact b7 (Ks ea (h_ bK))
end
def eg(l:cD)(g:Str):Option (Str×Str):=(l.ins.find? λx=>decide (x.1=g)).map (·.2)
def uu(M:bG)(g:Str):List (Str×Str×Str):=M.las.filterMap λl=>(eg l g).map λp=>(l.nm,p.1,p.2)
def vM(K:RC)(H:Hp)(b:V):Option (Str×Str)->Prop|none=>b=.non|some p=>∃s,b=.ref s/\aT K H s [.str p.1,.str p.2]
def vM.kp(e:Kp H H')(h:vM K H b o):vM K H' b o:=by cases o with|none=>exact h|some p=>obtain⟨s,h1,h2⟩:=h;exact⟨s,h1,e.tq h2⟩
def bR.seat(g:Str)(h:bR K H iv ins):vM K H ((aW iv (.inr g)).getD .non) ((ins.find? λx=>decide (x.1=g)).map (·.2)):=by induction h with|nil=>rfl|@cons _ y _ _ h _ b=>
  by_cases e:y.1=g
  ·obtain⟨h1,s,h2,h3⟩:=h;rw[cn (by rw[h1,e]),sT (by simp[e]),h2];exact⟨s,rfl,h3⟩
  ·rw[bH (λz=>e (by rw[h.1]at z;exact ro z)),r3 (by simp[e])];exact b
def iH(K:RC)(H:Hp)(c:List V)(d:List (Str×Str×Str)):Prop:=Paired (λ(u:V)(y:Str×Str×Str)=>∃b,u=.ref b/\aT K H b [.str y.1,.str y.2.1,.str y.2.2]) c d
def iH.kp(e:Kp H H')(h:iH K H b c):iH K H' b c:=Paired.mapP h λ_ _ q=>q.imp λ_ q=>⟨q.1,e.tq q.2⟩
def cC(cm:List (Str×List (Str×Str)))(g:Str):List (Str×Str):=((cm.find? λx=>decide (x.1=g)).map (·.2)).getD []
def Bo(M:bG)(g:Str)(b:List (Str×Str×Str)):List Str:=(cC M.came g).map (·.1)++b.map (·.2.1)
def HU{M:bG}{g:Str}{b:List (Str×Str×Str)}{x:Str×Str×Str}:Bo M g (b++[x])=Bo M g b++[x.2.1]:=by unfold Bo;rw[il,G_];rfl
def CW(M:bG)(l:cD)(bs:RI)(r:Str×Str):Prop:=∃t∈M.trs,t.nm=r.1/\r.2∈t.arms/\t.home=l.nm/\∀n∈t.shuts,n∉bs
def DC(M:bG)(g:Str)(l:cD)(b:List (Str×Str×Str))(r:Str×Str):Prop:=eg l g=some r\/(eg l g=none/\CW M l (Bo M g b) r)
inductive zL(M:bG)(g:Str):Nat->List (Str×Str×Str)->Prop|nil:zL M g 0 []|skip{k:Nat}{ss:List (Str×Str×Str)}(h:zL M g k ss):zL M g (k+1) ss|row{k:Nat}{ss:List (Str×Str×Str)}{l:cD}{r:Str×Str}(h:zL M g k ss)(hl:M.las[k]?=some l)(hr:DC M g l ss r):zL M g (k+1) (ss++[(l.nm,r)])
def eB.find{dl:Addr}{cv:List (bL×V)}{cm:List (Str×List (Str×Str))}(g:Str)(h:eB K H dl cv cm):(aW cv (.inr g)=none/\cC cm g=[])\/∃l b,aW cv (.inr g)=some (.ref l)/\l≠dl/\H l=some (.lst b)/\cT K H b (cC cm g)/\(g,cC cm g)∈cm:=by induction h with|nil=>exact .inl ⟨rfl,rfl⟩|@cons _ y _ _ h _ d=>
  by_cases e:y.1=g
  ·obtain⟨h1,l,b,h2,n,h3,h4⟩:=h;have c:∀q,cC (y::q) g=y.2:=λq=>by unfold cC;rw[sT (by simp[e])];rfl
   rw[c];exact .inr ⟨l,b,by rw[cn (by rw[h1,e]),h2],n,h3,h4,by rw[<-e];exact l_⟩
  ·have c:∀q,cC (y::q) g=cC q g:=λq=>by unfold cC;rw[r3 (by simp[e])]
   rw[c,bH (λz=>e (by rw[h.1]at z;exact ro z))];exact d.imp id λq=>q.imp λ_ q=>q.imp λ_ q=>⟨q.1,q.2.1,q.2.2.1,q.2.2.2.1,kw _ q.2.2.2.2⟩
inductive Jf(P:RH)(w:World)(K:RC)(a:jl)(vs:List V)(H:Hp)(Q:VK)(E:XK):Prop|mk(M:bG)(Z:ZS)(c:Nat)(g:Str)(mv:V)(ms:List (Str×Int))(_:vs=[.ref (Z.G .hh),.str g,mv])(_:cP P w K a H M Z c)(_:c<=99)(_:Bw g)(_:tZ K H ms mv)(_:ms.length<=8)(_:∀(r:Addr)(us:List V)(H':Hp),ao H H'->H r=none->H' r=some (.lst us)->∀ss,iH K H' us ss->zL M g M.las.length ss->ss.length<=4->Q (.ref r) H')
section
def mC(T:Txt K mg a):aP P w K mg base dI 9 a.cf.x a.cf.d ["self","guest","marks"] (Jf P w K a):=by
 refine T.cf.ok bC λdV A outer s H vs Q E hr h=>?_
 ·obtain⟨M,Z,c,g,mv,ms,rfl,S,hc,hg,hm,c1,q⟩:=h;refine⟨_,(ag (HE 3 ff [] [7] [7] (aj dA) (ck 7) (cK K rfl (uQ (cj hr) (aI K rfl (Y 0)) (Y 1) (bg ae) ⟨rfl,rfl,rfl,rfl⟩)) (λcl C s₀ H₀ ex=>⟨(nz ff [] 7),bY,(cS K (Y 7) af)⟩) bC.nd) (ag (bf 4 bC.nd (bg ae)) (ag (BT (P:=P) (w:=w) (dw op rfl (Ao (P:=P) (w:=w) (aI K rfl (Y 0))) (gf K rfl rfl (bo (pF 5 bC.nd) (bo (pF 6 bC.nd) gc))) (ag (bf 7 bC.nd (uR (cj hr) (aI K rfl (Y 6)) (Y 1) ⟨rfl,rfl,rfl,rfl⟩)) (ag (aJ (aC BX (Y 7) lM (aE _)) (ah (bf 7 bC.nd (bw (Y 0) T.aF T.cV.m ((pJ (P:=P) (w:=w) T).mono (by decide)) hr T.cV.b .nil bx (ac (Y 6) (ac (Y 1) (ac (Y 2) (ac (Y 3) ae))))))) aA) (ah (aJ (aC Dh (Y 7) lM (aE _)) (ag (aN (gK K rfl PySem.F.plainAttrs_list PySem.F.slot_list_append PySem.F.type_list_append dG (Y 3) (ac (cS K (Y 7) af) ae))) (ah (aN (gK K rfl PySem.F.plainAttrs_list PySem.F.slot_list_append PySem.F.type_list_append dG (Y 4) (ac (av (uU K rfl) (bF (ac (Y 5) ae)) (Y 7)) ae))))) aA)))))) (ah (ax (Y 4)))))),?_⟩
  have hI:=S.g.house;have d1:=S.ok.l4;refine jS hI T.aF T.cR rfl rfl ⟨Z.G .ci,rfl,.inl ⟨_,.inl S.g.cams⟩,U rfl ⟨ls rfl,λl0 c2=>?_⟩⟩;have s0:=ai (o:=.lst []) (ao.refl H) c2;have e0:az H l0 (.lst []) l0=some (.lst []):=O;generalize az H l0 (.lst [])=H1 at s0 e0⊢;refine⟨aW Z.cv (.inr g),d0.k (k:=.inr g) (s0 _ _ S.g.cams),?_⟩;obtain⟨ll,I,ev,bb,hw,d2⟩:∃ll I,(aW Z.cv (.inr g)).getD (.ref l0)=.ref ll/\H1 ll=some (.lst I)/\cT K H1 I (cC M.came g)/\(cC M.came g).length<=990:=by
   rcases S.g.came.find g with⟨e,e'⟩|⟨l,us,e,_,h2,h3,h4⟩
   ·exact⟨l0,[],by rw[e];rfl,e0,by rw[e'];exact .nil,by rw[e'];exact m_ _⟩
   ·have:=S.ok.cm _ h4;have:(cC M.came g).length<=10*c:=this;exact⟨l,us,by rw[e];rfl,s0 _ _ h2,h3.kp (.of s0),by lia⟩
  rw[ev];have c3:I.length=(cC M.came g).length:=Paired.length hw;refine⟨ll,rfl,⟨_,aO.of bb⟩,λD hD=>?_⟩;refine jg (K:=K) (a:=ll) (xs:=I) (λk J H'=>ao H1 H'/\H' D=some (.lst J)/\J=((cC M.came g).take k).map λy=>V.str y.1) ⟨ai (ao.refl _) hD,O,rfl⟩ (λk J H' _ h=>aO.of (h.1 _ _ bb)) ?_ ?_
  ·rintro k v J H3 hv⟨s3,X,rfl⟩;have hk:k<I.length:=(d_.mp hv).1;obtain⟨y,hy,s,rfl,p⟩:=Paired.at_ hw k v hv;have d3:=PP k (cC M.came g);refine aq (jm (bI (U rfl (rX (ao.tseq s3 p) (ak (k:=0) rfl) ⟨X,by rw[c_,j1];lia,lf hk ⟨a0 s3 hD,O,by rw[cu hy,il];rfl⟩⟩))))
  rintro J H2⟨s2,aa,ea⟩;have eb:J=(Bo M g []).map V.str:=by rw[ea,c3,ku (f_ _)];unfold Bo;rw[Q9,rr,t_];rfl
  rw[eb]at aa;refine aq ⟨ls rfl,λW a5=>aq ?_⟩;have s3:=ai (o:=.lst []) (ao.refl H2) a5;have bc:az H2 W (.lst []) W=some (.lst []):=O;have X:=s3 _ _ aa;have bd:H D=none:=s0.free hD;have a6:H W=none:=s0.free (s2.free a5);have bi:D≠W:=λz=>by rw[z,a5]at aa;cases aa
  have ad:ao H (az H2 W (.lst [])):=(s0.trans s2).trans s3;generalize az H2 W (.lst [])=H3 at s3 bc X ad⊢;refine jS (ad _ _ hI) T.aF T.aX rfl rfl ⟨Z.G .ln,U rfl ⟨ad _ _ S.g.lays,λep=>?_⟩⟩;have bt:Z.G .ln≠D:=λz=>by have e:=S.g.lays;rw[z,bd]at e;cases e
  have a7:Z.G .ln≠W:=λz=>by have e:=S.g.lays;rw[z,a6]at e;cases e
  refine Hk (n:=M.las.length) (λk σ H'=>(∀b o,H b=some o->b≠Z.G .ln->H' b=some o)/\H' (Z.G .ln)=some (dE P w (Z.G .ln) (jT (M.las.map cD.nm) λi=>.ref (Z.G (.lo i))) ep)/\(∃us ss,H' D=some (.lst ((Bo M g ss).map V.str))/\H' W=some (.lst us)/\iH K H' us ss/\zL M g k ss/\ss.length<=k)/\∃v5 v6 v7,σ=[some (.ref (Z.G .hh)),some (.str g),some mv,some (.ref D),some (.ref W),v5,v6,v7]) ⟨λb o e n=>by rw[am n];exact ad b o e,O,⟨[],[],by rw[am (o_ bt)];exact X,by rw[am (o_ a7)];exact bc,.nil,.nil,f_ _⟩,_,_,_,rfl⟩ (λk σ H' hk h=>⟨h.2.1,by rw[jc,c_];exact hk⟩) ?_ ?_
  ·rintro k σ H4 x H5 hk⟨f4,j,⟨L,f,bu,a8,B,al,ba⟩,v5,v6,v7,rfl⟩⟨T1,kk,vv,c4,rfl,rfl,bz⟩;have d4:L.length=f.length:=Paired.length B;have d5:(Bo M g f).length<=990+k:=by unfold Bo;rw[iA,c_,c_];lia
   obtain⟨l,hl⟩:∃l,M.las[k]?=some l:=⟨_,hY hk⟩;rw[yE,ig,hl]at bz;obtain⟨rfl,rfl⟩:=QU (ji bz);have s5:=ai (o:=.tup [kV (.inr l.nm),.ref (Z.G (.lo k))]) (ao.refl H4) c4;have e5:az H4 T1 (.tup [kV (.inr l.nm),.ref (Z.G (.lo k))]) T1=some (.tup [.str l.nm,.ref (Z.G (.lo k))]):=O;generalize az H4 T1 (.tup [kV (.inr l.nm),.ref (Z.G (.lo k))])=H5 at s5 e5⊢;have R:t4 P w K a H H5 M Z c:=⟨S,λb o e n=>s5 _ _ (f4 b o e n)⟩;refine⟨T1,U rfl ⟨aT.of e5,rfl,_,U rfl (aq ⟨_,U rfl (aq ⟨rfl,?_⟩)⟩)⟩⟩;have da:=R.at_ (r:=.lo k) (by simp only[cont,hl];rfl) (by simp);have bK:=R.at_ (r:=.iu k) (by simp only[cont,hl];rfl) (by simp);refine jS da T.cg T.bQ rfl rfl ⟨Z.G (.iu k),rfl,.inl ⟨_,.inl bK⟩,U rfl ⟨aW (Z.iv k) (.inr g),d0.k (k:=.inr g) bK,aq ?_⟩⟩;have bN:=s5 _ _ bu;have dc:=s5 _ _ a8;refine U rfl ⟨rfl,U rfl (K3 (λσ H'=>ao H5 H'/\∃sv,σ=[some (.ref (Z.G .hh)),some (.str g),some mv,some (.ref D),some (.ref W),some (.str l.nm),some (.ref (Z.G (.lo k))),some sv]/\(sv=.non\/∃s r,sv=.ref s/\aT K H' s [.str r.1,.str r.2]/\DC M g l f r)) ?_ ?_)⟩
   ·rintro σ H6⟨s6,sv,rfl,di⟩;have ap:=s6 _ _ bN;have b7:=s6 _ _ dc;have a3:=s6 _ _ (s5 _ _ j);have f6:∀b o,H b=some o->b≠Z.G .ln->H6 b=some o:=λb o e n=>s6 _ _ (s5 _ _ (f4 b o e n));rcases di with rfl|⟨s,⟨t,y⟩,rfl,p,dt⟩
    ·exact U rfl ⟨rfl,U rfl (b0 ⟨f6,a3,⟨L,f,ap,b7,B.kp (.of (s5.trans s6)),al.skip,y_ ba⟩,_,_,_,rfl⟩)⟩
    refine U rfl ⟨rfl,U rfl (bI (U rfl ⟨.inl ⟨rfl,_,aO.of ap⟩,U rfl (rX p (ak (k:=0) rfl) (rA ap (by rw[c_,j1];lia) ?_))⟩))⟩;have as:Kp H6 (az H6 D (.lst ((Bo M g f).map V.str++[.str t]))):=.lst ap;have f7:∀b o,H6 b=some o->b≠D->az H6 D (.lst ((Bo M g f).map V.str++[.str t])) b=some o:=bV;have b8:az H6 D (.lst ((Bo M g f).map V.str++[.str t])) D=some (.lst ((Bo M g f++[t]).map V.str)):=by rw[O,il];rfl
    generalize az H6 D (.lst ((Bo M g f).map V.str++[.str t]))=H7 at as f7 b8⊢;have b9:=f7 _ _ b7 (o_ bi);have cc:=f7 _ _ a3 bt;refine U rfl ⟨.inl ⟨rfl,_,aO.of b9⟩,U rfl ⟨ls rfl,λT2 cE=>(U rfl ⟨T2,s,[.str l.nm],U rfl ⟨rfl,aT.of O,ao.tseq (ai (ao.refl _) cE) (as.tq p),by simp,by rw[j1];simp,λz=>(nomatch z),λ_ T3 dv=>?_⟩⟩)⟩⟩;have s9:=ai (o:=.tup ([.str l.nm]++[.str t,.str y])) (ai (o:=.tup [.str l.nm]) (ao.refl H7) cE) dv;have e9:az (az H7 T2 (.tup [.str l.nm])) T3 (.tup ([.str l.nm]++[.str t,.str y])) T3=some (.tup [.str l.nm,.str t,.str y]):=O;generalize az (az H7 T2 (.tup [.str l.nm])) T3 (.tup ([.str l.nm]++[.str t,.str y]))=H9 at s9 e9⊢;have c0:=s9 _ _ b9;refine rA c0 (by rw[j1];lia) ?_;have kp:Kp H9 (az H9 W (.lst (L++[.ref T3]))):=.lst c0;refine⟨λb o e n=>by rw[am (aD e a6)];exact s9 _ _ (f7 _ _ (f6 b o e n) (aD e bd)),by rw[am a7];exact s9 _ _ cc,⟨L++[.ref T3],f++[(l.nm,t,y)],by rw[am bi,HU];exact s9 _ _ b8,O,qQ (B.kp ⟨λu xs e=>kp.1 _ _ (s9 _ _ (as.1 _ _ ((s5.trans s6) _ _ e))),λu o e=>kp.2 _ _ (((Kp.of s9).2 _ _ (as.2 _ _ ((Kp.of (s5.trans s6)).2 _ _ e))))⟩) (.cons ⟨T3,rfl,kp.tq (aT.of e9)⟩ .nil),al.row hl dt,by rw[iA];exact tx ba⟩,_,_,_,rfl⟩
   ·intro N hN;have a2:vM K H _ (eg l g):=(S.g.seats k l hl).seat g;cases eo:eg l g with|some r=>rw[eo]at a2;obtain⟨s,es,p⟩:=a2;rw[es];exact b0 (hN _ _ ⟨ao.refl _,U rfl (.inr ⟨s,r,rfl,R.kp.tq p,.inl eo⟩)⟩)|none=>rw[eo]at a2;rw[show(aW (Z.iv k) (.inr g)).getD .non=.non from a2];have dT:=R.at_ (r:=.hh) rfl (by simp);refine bI (pC dT rfl rfl (U rfl (U rfl (U rfl (U rfl ⟨H,M,Z,c,k,l,g,mv,ms,D,Bo M g f,rfl,R,hl,hg,hm.kp R.kp,c1,bN,λH' s'=>aq (hN _ _ ⟨s',U rfl (.inl rfl)⟩),λs t y H' s' p ht hy hh hs=>aq (hN _ _ ⟨s',U rfl (.inr ⟨s,(t.nm,y),rfl,p,.inr ⟨eo,t,ht,rfl,hy,hh,hs⟩⟩)⟩)⟩)))))
  ·rintro σ H4⟨f4,j,⟨L,f,bu,a8,B,al,ba⟩,v5,v6,v7,rfl⟩;refine⟨⟨j,by rw[jc,c_];exact f_ _⟩,Z.G .ln,_,ep,j,?_⟩;have sF:ao H (az H4 (Z.G .ln) (.dK (jT (M.las.map cD.nm) λi=>.ref (Z.G (.lo i))))):=λb o e=>by
    by_cases z:b=Z.G .ln
    ·rw[z,S.g.lays]at e;rw[z,O];exact e
    ·rw[am z];exact f4 b o e z
   have kp:Kp H4 (az H4 (Z.G .ln) (.dK (jT (M.las.map cD.nm) λi=>.ref (Z.G (.lo i))))):=⟨λu xs e=>by rw[am λz=>by rw[z,j]at e;cases e];exact e,λu o⟨o',e⟩=>⟨o',by rw[am λz=>by rw[z,j]at e;cases e];exact e⟩⟩;exact U rfl (q W L _ sF a6 (by rw[am (o_ a7)];exact a8) f (B.kp kp) al (by lia))
end
def pD(cm:List (Str×List (Str×Str)))(g:Str)(b:List (Str×Str)):List (Str×List (Str×Str)):=if(cm.any λx=>decide (x.1=g))=true then cm.map (λx=>if x.1=g then(x.1,b)else x)else cm++[(g,b)]
def F7:(pD cm g ss).length<=cm.length+1:=by
 unfold pD
 split
 ·rw[c_];exact rk _
 ·rw[iA];exact f_ _
def F6(h:x∈pD cm g b):x∈cm\/x.2=b:=by
 unfold pD at h
 split at h
 ·obtain⟨y,c,e⟩:=mo.mp h
  split at e
  ·rw[<-e];exact .inr rfl
  ·rw[<-e];exact .inl c
 ·rcases Rz.mp h with q|q
  ·exact .inl q
  ·rw[List.mem_singleton.mp q];exact .inr rfl
theorem eB.any(g:Str)(h:eB K H dl cv cm):(cv.any λx=>decide (x.1=.inr g))=cm.any λx=>decide (x.1=g):=by induction h with|nil=>rfl|@cons _ y _ _ h _ b=>
  rw[w1,w1,b,h.1]
  congr 1
  by_cases e:y.1=g
  ·rw[m3 e,m3 (by rw[e])]
  ·rw[nk e,nk λz=>e (ro z)]
def eB.put(n:l≠dl)(d:H l=some (.lst b))(f:cT K H b i)(h:eB K H dl cv cm):eB K H dl (c7 cv (.inr g) (.ref l)) (pD cm g i):=by
 unfold c7 pD;rw[h.any g]
 split
 ·rename_i j;clear j
  induction h with|nil=>exact .nil|@cons x y _ _ q r k=>
   refine .cons ?_ k;obtain⟨h1,q⟩:=q
   by_cases e:y.1=g
   ·have c:x.1=.inr g:=by rw[h1,e]
    dsimp only;rw[i_ c,i_ e];exact⟨h1,l,b,rfl,n,d,f⟩
   ·have c:¬x.1=.inr g:=λz=>e (by rw[h1]at z;exact ro z);dsimp only;rw[ir c,ir e];exact⟨h1,q⟩
 ·exact Paired.snoc h ⟨rfl,l,b,rfl,n,d,f⟩
def F8{cv:List (bL×V)}{k:bL}{v:V}{x:bL×V}(h:x∈c7 cv k v):x∈cv\/x.2=v:=by
 unfold c7 at h
 split at h
 ·obtain⟨y,b,e⟩:=mo.mp h
  split at e
  ·rw[<-e];exact .inr rfl
  ·rw[<-e];exact .inl b
 ·rcases Rz.mp h with q|q
  ·exact .inl q
  ·rw[List.mem_singleton.mp q];exact .inr rfl
def bR.some(h:bR K H iv ins)(hg:g∈ins.map (·.1)):(aW iv (.inr g)).isSome=true:=by induction h with|nil=>cases hg|@cons _ y _ _ h _ b=>
  by_cases e:y.1=g
  ·rw[cn (by rw[h.1,e])];rfl
  ·rw[bH (λz=>e (by rw[h.1]at z;exact ro z))];rw[np]at hg;exact b ((pv.mp hg).resolve_left λq=>e q.symm)
def K9(g:Str)(ins b:List (Str×Str×Str)):Prop:=b=ins\/(g∉ins.map (·.1)/\∃t y,b=ins++[(g,t,y)])
structure k9(g:Str)(M M':bG):Prop where
 p:M'.p=M.p
 salt:M'.salt=M.salt
 trs:M'.trs=M.trs
 len:M'.las.length=M.las.length
 las:∀(i:Nat)(l:cD),M.las[i]?=some l->∃ins',M'.las[i]?=some {l with ins:=ins'}/\K9 g l.ins ins'
def k9.refl(g:Str)(M:bG):k9 g M M:=⟨rfl,rfl,rfl,rfl,λi l b=>⟨l.ins,b,.inl rfl⟩⟩
def k9.names(h:k9 g M c):c.las.map cD.nm=M.las.map cD.nm:=by
 refine zz λi=>?_;rw[ig,ig]
 by_cases hi:i<M.las.length
 ·obtain⟨b,e,_⟩:=h.las i _ (hY hi);rw[e,hY hi];rfl
 ·rw[o0 (by rw[h.len];exact PK hi),o0 (by exact PK hi)]
def nu.vis{g:Str}{M d:bG}{c:Nat}(h:nu M c)(v:k9 g M d)(hg:Bw g)(o:∀l∈M.las,l.ins.length<=62)(h1:∀x∈d.came,x.2.length<=10*c+4)(h2:d.came.length<=10*c+4):nu d (c+1):=by
 have m:=v.names;refine⟨by rw[v.p];exact h.p,by rw[m];exact h.ln,by rw[v.trs];exact h.tn,λl r=>?_,λt f=>?_,λx j=>by have:=h1 x j;lia,by rw[v.len];exact h.l4,by rw[v.trs];exact h.tc,by lia,λt f=>by rw[v.trs]at f;exact y_ (h.br t f)⟩
 ·obtain⟨i,hi⟩:=k_.mp r;have b:i<M.las.length:=by rw[<-v.len];exact(d_.mp hi).1
  obtain⟨n,e,q⟩:=v.las i _ (hY b);rw[hi]at e;have e:=ji e;have k:=h.la _ (C1 b);rw[e];have own:∀k z,z∈(M.las[i]).S.pl k->k=fF "" ""\/∃t∈d.trs,t.home=(M.las[i]).nm/\∃y∈t.arms,k=fF t.nm y:=by rw[v.trs];exact k.own
  rcases q with rfl|⟨hn,t,y,rfl⟩
  ·exact⟨k.wd,by rw[v.p];exact k.sl,by rw[v.p];exact k.ok,k.len,k.gs,k.nd,own⟩
  ·refine⟨k.wd,by rw[v.p];exact k.sl,by rw[v.p];exact k.ok,by show(_++[_]).length<=63;rw[iA];exact tx (o _ (C1 b)),λx j=>?_,?_,own⟩
   ·rcases Rz.mp j with q|q
    ·exact k.gs x q
    ·rw[List.mem_singleton.mp q];exact hg
   ·show((_++[(g,t,y)]).map (·.1)).Nodup;rw[il,qx];exact⟨k.nd,by simp,λx j z s e=>hn (by rw[<-show z=g from List.mem_singleton.mp s,<-e];exact j)⟩
 ·rw[v.trs]at f;have k:=h.tr t f;exact{k with hm:=by rw[m];exact k.hm}
def k9.step{g:Str}{M d:bG}(v:k9 g M d){i:Nat}{l:cD}{b:List (Str×Str×Str)}{t y:Str}{cm:List (Str×List (Str×Str))}(h:M.las[i]?=some l)(f:d.las[i]?=some {l with ins:=b})(hi:K9 g l.ins b)(hn:g∉b.map (·.1)):k9 g M {d.setL i {l with ins:=b++[(g,t,y)]}with came:=cm}:=by
 have e:b=l.ins:=by
  rcases hi with e|⟨_,t,y,e⟩
  ·exact e
  ·exact absurd (by rw[e,il];exact pa _ l_) hn
 refine⟨v.p,v.salt,v.trs,by rw[<-v.len];exact vu ..,λj k h2=>?_⟩
 by_cases q:j=i
 ·subst q;rw[h]at h2;cases h2;exact⟨_,uB f,.inr ⟨by rw[<-e];exact hn,t,y,by rw[e]⟩⟩
 ·obtain⟨c,m,n⟩:=v.las j k h2;exact⟨c,by show(d.las.set i _)[j]?=_;rw[oD λz=>q z.symm];exact m,n⟩
def iG(M:bG)(g nm:Str):Bool:=M.las.any λl=>decide (l.nm=nm)&&(eg l g).isSome
def bX(M:bG)(g:Str)(b:List (Str×Str×Str)):List (Str×Str):=b.filterMap λr=>if iG M g r.1=true then none else some r.2
def yK{M:bG}(hn:(M.las.map cD.nm).Nodup){i j:Nat}{l b:cD}(hi:M.las[i]?=some l)(c:M.las[j]?=some b)(e:l.nm=b.nm):i=j:=by refine(Px (l:=M.las.map cD.nm) (by rw[c_];exact(d_.mp hi).1) hn).mp ?_;rw[ig,ig,hi,c];exact tl some e
def lQ{M:bG}{g:Str}(hn:(M.las.map cD.nm).Nodup){i:Nat}{l:cD}(b:M.las[i]?=some l):iG M g l.nm=(eg l g).isSome:=by unfold iG;cases e:eg l g with|some r=>exact QD.mpr ⟨l,h_ b,by rw[m3 rfl,e];rfl⟩|none=>refine Q_.mpr λf c z=>?_;obtain⟨j,d⟩:=k_.mp c;rw[n7]at z;have q:=yK hn d b (lh z.1);rw[q,b]at d;rw[<-ji d,e]at z;cases z.2
def m6{M:bG}{g:Str}{c:List (Str×Str×Str)}{r:Str×Str×Str}{b:Bool}(h:iG M g r.1=b):bX M g (c++[r])=bX M g c++if b=true then[]else[r.2]:=by unfold bX;rw[Es,z8,h];cases b<;>rfl
structure Lc(M:bG)(g:Str)(ss:List (Str×Str×Str)):Prop where
 at_:∀(j:Nat)(r:Str×Str×Str),ss[j]?=some r->∃(i:Nat)(l:cD),M.las[i]?=some l/\r.1=l.nm/\DC M g l (ss.take j) r.2
 nd:(ss.map (·.1)).Nodup
def zL.ok{M:bG}{g:Str}{k:Nat}{b:List (Str×Str×Str)}(hn:(M.las.map cD.nm).Nodup)(h:zL M g k b):Lc M g b/\∀r∈b,∃(i:Nat)(l:cD),i<k/\M.las[i]?=some l/\r.1=l.nm:=by induction h with|nil=>exact⟨⟨λj r e=>(nomatch e),.nil⟩,λr d=>(nomatch d)⟩|skip _ c=>exact⟨c.1,λr d=>(c.2 r d).imp λ_ q=>q.imp λ_ q=>⟨ri q.1,q.2⟩⟩|@row k b l r _ m d c=>
  refine⟨⟨λj x e=>?_,?_⟩,λx o=>?_⟩
  ·by_cases f:j<b.length
   ·rw[q_ f]at e;rw[Rs (t2 f)];exact c.1.at_ j x e
   ·have f:b.length<=j:=PK f;rw[sg f]at e;have h0:j-b.length=0:=by cases q:j-b.length with|zero=>rfl|succ n=>rw[q]at e;cases e
    rw[h0]at e;obtain rfl:=ji e;have s:j=b.length:=by lia
    rw[s,Rs (f_ _),ku (f_ _)];exact⟨k,l,m,rfl,d⟩
  ·rw[il,qx];refine⟨c.1.nd,by simp,λx o z t e=>?_⟩;obtain⟨y,u,rfl⟩:=mo.mp o;obtain⟨i,B,hi,p,v⟩:=c.2 y u;have A:z=l.nm:=List.mem_singleton.mp t;have q:=yK hn p m (by rw[<-v,e,A]);lia
  ·rcases Rz.mp o with q|q
   ·exact(c.2 x q).imp λ_ q=>q.imp λ_ q=>⟨ri q.1,q.2⟩
   ·rw[List.mem_singleton.mp q];exact⟨k,l,rx _,m,rfl⟩
def C6{l:cD}{g:Str}:(eg l g).isSome=true↔g∈l.ins.map (·.1):=by
 unfold eg;rw[Qp]
 constructor
 ·intro h;obtain⟨x,b⟩:=H_.mp h;have c:=List.find?_some b;exact mo.mpr ⟨x,Qn b,lh c⟩
 ·intro h;obtain⟨x,b,e⟩:=mo.mp h;exact List.find?_isSome.mpr ⟨x,b,m3 e⟩
def Bh{cm:List (Str×List (Str×Str))}{g b:Str}{j:List (Str×Str)}:cC (pD cm g j) b=if b=g then j else cC cm b:=by
 unfold pD
 split
 ·next h=>induction cm with|nil=>cases h|cons y r i=>
   by_cases e:y.1=g
   ·rw[np,i_ e]
    by_cases c:b=g
    ·rw[i_ c];unfold cC;rw[sT (by simp[e,c])];rfl
    ·rw[ir c];have ne:¬y.1=b:=λz=>c (by rw[<-z,e]);have q:∀q:List (Str×List (Str×Str)),cC (q.map λx=>if x.1=g then(x.1,j)else x) b=cC q b:=λq=>by induction q with|nil=>rfl|cons z q k=>
       unfold cC at k⊢;rw[np]
       by_cases d:z.1=b
       ·rw[ir λw=>c (by rw[<-d,w]),sT (by simp[d]),sT (by simp[d])]
       ·rw[r3 (by split<;>simp[d]),r3 (by simp[d])];exact k
     have l:=q r;unfold cC at l⊢;rw[r3 (by simp[ne]),r3 (by simp[ne])];exact l
   ·rw[w1,nk e,Bool.false_or]at h;have i:=i h;rw[np,ir e]
    by_cases f:y.1=b
    ·rw[ir λz=>e (by rw[f,z])];unfold cC;rw[sT (by simp[f]),sT (by simp[f])]
    ·unfold cC at i⊢;rw[r3 (by simp[f]),r3 (by simp[f])];exact i
 ·next h=>
  unfold cC;rw[List.find?_append]
  by_cases e:b=g
  ·subst e;rw[i_ rfl,List.find?_eq_none.mpr λx m z=>h (QD.mpr ⟨x,m,z⟩)];rw[sT (by simp)];rfl
  ·rw[ir e,r3 (by simp[o_ e]),List.find?_nil,Option.or_none]
def kd(M:bG):Prop:=∀l∈M.las,∀x∈l.ins,∃t∈M.trs,t.nm=x.2.1/\t.home=l.nm
structure Kz(g:Str)(M M':bG)(ss:List (Str×Str×Str)):Prop where
 ans:Lc M g ss
 came:cC M'.came g=cC M.came g++bX M g ss
 oth:∀g',g'≠g->cC M'.came g'=cC M.came g'
 ins:kd M->kd M'
inductive II(P:RH)(w:World)(K:RC)(a:jl)(vs:List V)(H:Hp)(Q:VK)(E:XK):Prop|mk(M:bG)(Z:ZS)(c:Nat)(g:Str)(mv:V)(ms:List (Str×Int))(_:vs=[.ref (Z.G .hh),.str g,mv])(_:cP P w K a H M Z c)(_:c<=99)(_:(∀l∈M.las,l.ins.length<=62))(_:Bw g)(_:tZ K H ms mv)(_:ms.length<=8)(_:∀(r:Addr)(us:List V)(M':bG)(Z':ZS)(H':Hp),k9 g M M'->fH H M Z H' M' Z'->cP P w K a H' M' Z' (c+1)->H r=none->H' r=some (.lst us)->Z'.ds=Z.ds->(∃ss,iH K H' us ss/\Kz g M M' ss)->Q (.ref r) H')
section
def pK(T:Txt K mg a):aP P w K mg base dI 10 a.cW.x a.cW.d ["self","guest","marks"] (II P w K a):=by
 refine T.cW.ok cF λf0 A outer s H vs Q E hr h=>?_
 ·obtain⟨M,Z,c,g,mv,ms,rfl,X,hc,dt,hg,hm,er,q⟩:=h;refine⟨_,(ag (bf 3 cF.nd (bw (Y 0) T.aF T.cf.m ((mC (P:=P) (w:=w) T).mono (by decide)) hr T.cf.b .nil bx (ac (Y 1) (ac (Y 2) ae)))) (ag (dw op rfl (cK K rfl (Y 3)) (gf K rfl rfl (bo (pF 4 cF.nd) (bo (pF 5 cF.nd) (bo (pF 6 cF.nd) gc)))) (ag (bf 7 cF.nd (eC (cj hr) (aI K rfl (Y 0)) (Y 4) (λ_ _=>rfl))) (ah (aJ (qO (qR (cj hr) (Y 1) (aI K rfl (Y 7))) rfl) (ag (iS (bF (ac (Y 5) (ac (Y 6) ae))) (iU (aI K rfl (Y 7)) (Y 1) (lw (cj hr)))) (ah (iS (av BY (uQ (cj hr) (aI K rfl (Y 0)) (Y 1) (bg ae) ⟨rfl,rfl,rfl,rfl⟩) (bg (ac (bF (ac (Y 5) (ac (Y 6) ae))) ae))) (iU (aI K rfl (Y 0)) (Y 1) (lw (cj hr)))))) aA)))) (ah (ax (Y 3))))),?_⟩
  refine pC X.g.house rfl rfl (U rfl (U rfl ⟨M,Z,c,g,mv,ms,rfl,X,hc,hg,hm,er,λr us H1 s1 hr dv ss ad hR b7=>aq ?_⟩));have hA:=(hR.ok X.ok.ln).1;have f6:us.length<=4:=by rw[Paired.length ad];exact b7
  have es:¬gB M Z r:=X.g.foot hr;refine U rfl ⟨r,rfl,⟨_,aO.of dv⟩,?_⟩;refine nj (xs:=us) (λk σ H'=>Fk λM' Z'=>OI (k9 g M M') (bA P w K a H' M' Z') (Z'.tk=Z.tk) (Z'.ow=Z.ow) (Z'.ds=Z.ds) ((∀x∈M'.came,x.2.length<=10*c+k)) (M'.came.length<=10*c+k) (fH H M Z H' M' Z') (¬gB M' Z' r) (H' r=some (.lst us)) (iH K H' us ss) ((cC M'.came g=cC M.came g++bX M g (ss.take k)/\(∀g',g'≠g->cC M'.came g'=cC M.came g')/\(kd M->kd M')/\∀(i:Nat)(l:cD),M.las[i]?=some l->l.nm∉(ss.take k).map (·.1)->M'.las[i]?=some l)) (Ex4 λv4 v5 v6 v7=>σ=[some (.ref (Z.G .hh)),some (.str g),some mv,some (.ref r),v4,v5,v6,v7])) ⟨M,Z,k9.refl g M,X.g.same s1,rfl,rfl,rfl,X.ok.cm,X.ok.cl,fH.of s1,es,dv,ad,⟨by rw[x_];exact(rr _).symm,λ_ _=>rfl,id,λ_ _ h _=>h⟩,_,_,_,_,rfl⟩ (λk σ H' _ h=>by obtain⟨_,_,_,_,_,_,_,_,_,_,_,h,_⟩:=h;exact aO.of h) ?_ ?_
  ·rintro k v σ H2 hv⟨M2,f,v2,J,bc,bd,al,an,dT,ap,as,a2,S,⟨a3,bi,aa,bK⟩,v4,v5,v6,v7,rfl⟩N R B hN;have hk:k<us.length:=(d_.mp hv).1;obtain⟨⟨nm,t,y⟩,b8,b,rfl,hb⟩:=Paired.at_ S k v hv;obtain⟨i,l,hl,en,eu⟩:=hA.at_ k _ b8;obtain rfl:nm=l.nm:=en;have ew:l.nm∉(ss.take k).map (·.1):=λz=>by have nd:=hA.nd;rw[<-ta k ss,il,qx]at nd;refine nd.2.2 _ z l.nm ?_ rfl;exact mo.mpr ⟨_,h_ (i:=0) (by rw[Ql];exact b8),rfl⟩
   have b9:=bK i l hl ew;have cc:ss.take (k+1)=ss.take k++[(l.nm,t,y)]:=cu b8;have dV:∀(j:Nat)(l':cD),M.las[j]?=some l'->l'.nm∉(ss.take (k+1)).map (·.1)->j≠i/\M2.las[j]?=some l':=λj l' h1 h2=>by rw[cc,il,Rz]at h2;refine⟨λz=>h2 (.inr ?_),bK j l' h1 λz=>h2 (.inl z)⟩;rw[z,hl]at h1;rw[<-ji h1];exact l_
   refine⟨b,U rfl ⟨hb,rfl,_,U rfl (aq ⟨_,U rfl (aq ⟨_,U rfl (aq ⟨rfl,?_⟩)⟩)⟩)⟩⟩;obtain⟨u,D,d1⟩:=v2.las i l hl;have d2:u=l.ins:=by rw[b9]at D;exact(tl cD.ins (ji D)).symm
   have d3:f.G .hh=Z.G .hh:=ap.hh;have d4:=J.house;have d5:=J.lays;have ea:aW (jT (M2.las.map cD.nm) λi=>V.ref (f.G (.lo i))) (.inr l.nm)=some (.ref (f.G (.lo i))):=t8 (by rw[v2.names];exact X.ok.ln) (by rw[ig,D];rfl);rw[d3]at d4;refine jS d4 T.aF T.aX rfl rfl (U rfl (rG (.ref (f.G (.lo i))) (by rw[<-ea];exact d0.k (k:=.inr l.nm) d5) (aq ?_)));have eb:=J.layer D;have ec:=J.inside D;refine U rfl (jS eb T.cg T.bQ rfl rfl (rG (aW (f.iv i) (.inr g)) (d0.k (k:=.inr g) ec) (U rfl ?_)));have cE:=J.seats i _ D
   by_cases a5:g∈u.map (·.1)
   ·rw[cE.some a5];have c0:iG M g l.nm=true:=by rw[lQ X.ok.ln hl,C6,<-d2];exact a5
    exact b0 (hN _ _ ⟨M2,f,v2,J,bc,bd,al,λx hx=>by have:=an x hx;omega,by omega,ap,as,a2,S,⟨by rw[cc,m6 (r:=(l.nm,t,y)) c0,i_ rfl,rr];exact a3,bi,aa,λj l' h1 h2=>(dV j l' h1 h2).2⟩,_,_,_,_,rfl⟩)
   ·have a6:=cE.none a5;have ed:eg l g=none:=by cases e:eg l g with|none=>rfl|some r=>exact absurd (by rw[d2];exact C6.mp (by rw[e];rfl)) a5
    obtain⟨tr,ey,ez,_,eG,_⟩:CW M l _ (t,y):=(eu.resolve_left λz=>by rw[ed]at z;cases z).2;have eH:iG M g l.nm=false:=by rw[lQ X.ok.ln hl,ed];rfl
    rw[a6];refine bI (U rfl (U rfl ⟨ls rfl,λT1 eN=>?_⟩));have s3:=ai (o:=.tup [.str t,.str y]) (ao.refl H2) eN;have e3:az H2 T1 (.tup [.str t,.str y]) T1=some (.tup [.str t,.str y]):=O;generalize az H2 T1 (.tup [.str t,.str y])=H3 at s3 e3⊢;have c1:=J.same s3;have eQ:(f.iv i).length<=100:=by
     rw[cE.len];show u.length<=100;have:=(X.ok.la l (h_ hl)).len;rcases d1 with e|⟨_,_,_,e⟩
     ·rw[e];exact mu this (lh rfl)
     ·rw[e,iA];simp;exact mu this (lh rfl)
    refine jS (s3 _ _ eb) T.cg T.bQ rfl rfl (U rfl ⟨f.G (.iu i),_,.inr g,rfl,rfl,s3 _ _ ec,by rw[j1];exact rV eQ (lh rfl),?_⟩);rw[pE _ a6];have L:bA P w K a (az H3 (f.G (.iu i)) (.dK (f.iv i++[(.inr g,.ref T1)]))) (M2.setL i {l with ins:=u++[(g,t,y)]}) {f with iv:=λj=>if j=i then f.iv i++[(.inr g,.ref T1)]else f.iv j}:=c1.setIns (iv':=f.iv i++[(.inr g,.ref T1)]) (ins':=u++[(g,t,y)]) D (Paired.snoc (c1.seats i _ D) ⟨rfl,T1,rfl,aT.of e3⟩);have ef:=(d_.mp D).1;have a7:fH H3 M2 f (az H3 (f.G (.iu i)) (.dK (f.iv i++[(.inr g,.ref T1)]))) (M2.setL i {l with ins:=u++[(g,t,y)]}) {f with iv:=λj=>if j=i then f.iv i++[(.inr g,.ref T1)]else f.iv j}:=fH.put (show i<_ from ef) rfl (vu ..) rfl rfl λx hx=>.inl hx;have c2:=c1.imm (r:=.iu i) (by simp only[cont,D];rfl) (bV (o':=.dK (f.iv i++[(.inr g,.ref T1)])));have c3:=bV (x:=f.G (.iu i)) (o':=.dK (f.iv i++[(.inr g,.ref T1)])) _ _ (s3 _ _ a2) λz=>as (.inl ⟨.iu i,ef,z⟩);have c4:¬gB (M2.setL i {l with ins:=u++[(g,t,y)]}) {f with iv:=λj=>if j=i then f.iv i++[(.inr g,.ref T1)]else f.iv j} r:=λz=>(a7.fp r z).elim as λz=>by rw[s3 _ _ a2]at z;cases z
    have eS:=c2.kp.tq (K:=K) (aT.of e3);have bN:=(S.kp (.of s3)).kp c2.kp;generalize bt:M2.setL i {l with ins:=u++[(g,t,y)]}=M4 at L a7 c4;generalize a8:({f with iv:=λj=>if j=i then f.iv i++[(.inr g,.ref T1)]else f.iv j}:ZS)=I at L a7 c4;have ba:I.G=f.G:=by rw[<-a8]
    have fx:I.cv=f.cv:=by rw[<-a8]
    have eh:I.tk=f.tk:=by rw[<-a8]
    have ei:I.ow=f.ow:=by rw[<-a8]
    have ej:I.ds=f.ds:=by rw[<-a8]
    have C:M4.came=M2.came:=by rw[<-bt]
    generalize az H3 (f.G (.iu i)) (.dK (f.iv i++[(.inr g,.ref T1)]))=H4 at L a7 c2 c3 eS bN⊢;have da:=L.house;rw[ba,d3]at da;have bu:=L.cams;rw[ba]at bu;refine jS da T.aF T.cR rfl rfl ⟨f.G .ci,rfl,.inl ⟨_,.inl bu⟩,U rfl ⟨ls rfl,λl0 eZ=>?_⟩⟩;have s5:=ai (o:=.lst []) (ao.refl H4) eZ;have e5:az H4 l0 (.lst []) l0=some (.lst []):=O;generalize az H4 l0 (.lst [])=H5 at s5 e5⊢;refine⟨aW I.cv (.inr g),d0.k (k:=.inr g) (s5 _ _ bu),_,rfl,U rfl ⟨ls rfl,λW e0=>⟨ls rfl,λl1 ek=>?_⟩⟩⟩;have s7:=ai (o:=.lst [.ref W]) (ai (o:=.tup [.str t,.str y]) (ao.refl H5) e0) ek;have e7:az (az H5 W (.tup [.str t,.str y])) l1 (.lst [.ref W]) l1=some (.lst [.ref W]):=O;have e6:az (az H5 W (.tup [.str t,.str y])) l1 (.lst [.ref W]) W=some (.tup [.str t,.str y]):=by rw[am (aD O ek)];exact O
    generalize az (az H5 W (.tup [.str t,.str y])) l1 (.lst [.ref W])=H7 at s7 e6 e7⊢;have bz:=s5.trans s7;obtain⟨ll,F,p,e1,ev,e2,el,b7⟩:∃ll F p,p=cC M4.came g/\(aW I.cv (.inr g)).getD (.ref l0)=.ref ll/\H7 ll=some (.lst F)/\cT K H7 F p/\p.length<=10*c+k:=by
     rcases L.came.find g with⟨e,e'⟩|⟨e4,e9,e,_,h2,h3,h4⟩
     ·exact⟨l0,[],[],e'.symm,by rw[e];rfl,s7 _ _ e5,.nil,by simp⟩
     ·have h5:=h4;rw[C]at h5;have:=an _ h5;exact⟨e4,e9,U rfl ⟨by rw[e];rfl,bz _ _ h2,h3.kp (.of bz),by rw[C];exact this⟩⟩
    have fy:F.length=p.length:=Paired.length el;rw[ev];refine⟨ll,l1,F,[.ref W],rfl,rfl,e2,e7,by rw[j1];simp;lia,λlp dc=>?_⟩;have s8:=ai (o:=.lst (F++[.ref W])) bz dc;have e8:az H7 lp (.lst (F++[.ref W])) lp=some (.lst (F++[.ref W])):=O;have eo:cT K (az H7 lp (.lst (F++[.ref W]))) (F++[.ref W]) (p++[(t,y)]):=cT.kp (Kp.new dc) (Paired.snoc el ⟨W,rfl,aT.of e6⟩);have bb:H4 lp=none:=bz.free dc;generalize az H7 lp (.lst (F++[.ref W]))=H8 at s8 e8 eo⊢;have di:=L.same s8;have fR:I.cv.length<=10*c+k:=by have:=Paired.length L.came;rw[this,C];exact dT
    refine jS (s8 _ _ da) T.aF T.cR rfl rfl (U rfl ⟨f.G .ci,_,.inr g,rfl,rfl,s8 _ _ bu,by rw[j1];lia,?_⟩);have fa:lp≠I.G .dl:=λz=>by rw[z,L.dees]at bb;cases bb
    have fg:bA P w K a (az H8 (f.G .ci) (.dK (c7 I.cv (.inr g) (.ref lp)))) {M4 with came:=pD M4.came g (p++[(t,y)])} {I with cv:=c7 I.cv (.inr g) (.ref lp)}:=by rw[show f.G .ci=I.G .ci by rw[ba]];exact di.setCame (di.came.put (g:=g) fa e8 eo)
    have ep:=di.imm (r:=.ci) rfl (bV (o':=.dK (c7 I.cv (.inr g) (.ref lp))));rw[ba]at ep;have eq:fH H4 M4 I (az H8 (f.G .ci) (.dK (c7 I.cv (.inr g) (.ref lp)))) {M4 with came:=pD M4.came g (p++[(t,y)])} {I with cv:=c7 I.cv (.inr g) (.ref lp)}:=by
     refine⟨rfl,λb o e n=>by rw[am λz=>n (.inl ⟨.ci,trivial,by rw[ba];exact z⟩)];exact s8 b o e,λb z=>?_,λb z=>s8.free (mD z),rfl⟩;rcases z with z|z|⟨x,hx,e⟩
     ·exact .inl (.inl z)
     ·exact .inl (.inr (.inl z))
     ·rcases F8 hx with q|q
      ·exact .inl (.inr (.inr ⟨x,q,e⟩))
      ·rw[q]at e;cases e;exact .inr bb
    have v9:k9 g M {M4 with came:=pD M4.came g (p++[(t,y)])}:=by rw[<-bt];exact v2.step hl D d1 a5
    have fl:=(ap.trans (fH.of s3)).trans (a7.trans eq);have fo:az H8 (f.G .ci) (.dK (c7 I.cv (.inr g) (.ref lp))) r=some (.lst us):=by rw[am λz=>as (.inl ⟨.ci,trivial,z⟩)];exact s8 _ _ c3
    refine hN _ _ ⟨_,{I with cv:=c7 I.cv (.inr g) (.ref lp)},v9,fg,eh.trans bc,ei.trans bd,ej.trans al,λx hx=>?_,?_,fl,λz=>(eq.fp r z).elim c4 (λz=>by rw[c3]at z;cases z),fo,(bN.kp (.of s8)).kp ep.kp,⟨?_,λg' n=>?_,λio=>?_,λj l' h1 h2=>?_⟩,_,_,_,_,rfl⟩
    ·rcases F6 hx with q|q
     ·rw[C]at q;have:=an x q;exact y_ this
     ·rw[q,iA];simp;exact tx b7
    ·have:=F7 (cm:=M4.came) (g:=g) (ss:=p++[(t,y)]);rw[C]at this;show(pD M4.came g (p++[(t,y)])).length<=_;rw[C];lia
    ·show cC (pD M4.came g (p++[(t,y)])) g=_;rw[Bh,i_ rfl,e1,C,a3,cc,m6 (r:=(l.nm,t,y)) eH,G_];rfl
    ·show cC (pD M4.came g (p++[(t,y)])) g'=_;rw[Bh,ir n,C];exact bi g' n
    ·have io:=aa io;rw[<-bt];intro l' fq x hx;show∃t∈M2.trs,_;rcases v1 (show l'∈M2.las.set i _ from fq)with q|q
     ·exact io l' q x hx
     ·rw[q]at hx⊢;rcases Rz.mp hx with q|q
      ·exact io _ (h_ D) x q
      ·rw[List.mem_singleton.mp q];exact⟨tr,by rw[v2.trs];exact ey,ez,eG⟩
    ·obtain⟨n,e⟩:=dV j l' h1 h2;rw[<-bt];show(M2.las.set i _)[j]?=_;rw[oD λz=>n z.symm];exact e
  ·rintro σ H2⟨M2,f,v2,J,bc,bd,al,an,dT,ap,as,a2,S,⟨a3,bi,aa,_⟩,v4,v5,v6,v7,rfl⟩;rw[Paired.length ad,ku (f_ _)]at a3;exact U rfl (q r us M2 f H2 v2 ap ⟨J,X.ok.vis v2 hg dt (λx hx=>by have:=an x hx;lia) (by lia),λj=>by rw[bc];have:=X.tk j;exact mu this (K_ _ _),λj=>by rw[bd];have:=X.ow j;exact mu this (K_ _ _),by rw[al];have:=X.ds;exact y_ this⟩ hr a2 al ⟨ss,S,hA,a3,bi,aa⟩)
end
inductive Jb(K:RC)(g:Addr)(vs:List V)(H:Hp)(Q:VK)(_E:XK):Prop|mk(d:Addr)(k:Str)(xs:List V)(_:vs=[.ref d])(_:aT K H d (.str k::xs))(_:(∃tk,PySem.W.nsIn K g k=some (some (.int ((xs.length:Int)+1) tk))))(_:Q .non H)
inductive FO(K:RC)(vs:List V)(H:Hp)(Q:VK)(_E:XK):Prop|mk(t d:Addr)(l:RI)(kvs:List (bL×V))(_:vs=[.ref t,.ref d])(_:aT K H t (l.map V.str))(_:H d=some (.dK kvs))(_:(∀x∈l,Wd x/\(aW kvs (.inr x)).isSome=true))(_:l.Nodup)(_:l.length<=8)(_:∀H',ao H H'->Q .non H')
inductive FN(P:RH)(w:World)(K:RC)(a:jl)(vs:List V)(H:Hp)(Q:VK)(_E:XK):Prop|mk(z:Int)(M:bG)(Z:ZS)(_:vs=[.int z,.int M.p,.ref (Z.G .ln)])(_:bA P w K a H M Z)(_:M.las.length<=4)(_:0<=z)(_:z<=M.p)(_:z∉M.las.map cD.sl)(_:∀H',ao H H'->Q .non H')
inductive FL(K:RC)(vs:List V)(H:Hp)(Q:VK)(_E:XK):Prop|mk(d ly tr ar sh:Addr)(ru:V)(x y:Str)(r:Ru)(ws l ss:RI)(lk tk:List (bL×V))(_:vs=[.ref d,.ref ly,.ref tr])(_:aT K H d [.str "trial",.str x,.str y,.ref ar,ru,.ref sh])(_:Wd x)(_:Wd y)(_:H ly=some (.dK lk))(_:H tr=some (.dK tk))(_:aW tk (.inr x)=none)(_:(aW lk (.inr y)).isSome=true)(_:aT K H ar (l.map V.str))(_:(∀w∈l,Wd w))(_:l.Nodup)(_:1<=l.length)(_:l.length<=4)(_:eY K H r ru)(_:r.hgt<=6)(_:r.cnt<=30)(_:kA ws r)(_:(∀w∈ws,Wd w))(_:ws.length<=3)(_:aT K H sh (ss.map V.str))(_:(∀x∈ss,Wd x/\(aW tk (.inr x)).isSome=true))(_:ss.Nodup)(_:ss.length<=8)(_:∀H',ao H H'->Q .non H')
section
def wB(T:Txt K mg a)(f:w.params=a.pm):aP P w K mg base dI 1 a.gR.x a.gR.d ["deed"] (Jb K a.eZ):=by
 refine T.gR.ok wo λg A outer s H j Q E l h=>?_
 ·obtain⟨d,k,c,rfl,b,⟨tk,i⟩,q⟩:=h;refine⟨_,(ag (aJ (PW.pt (fb (bZ (aM K rfl (au (dP K rfl) (by rfl) T.bh L2.aQ (ac (Y 0) (ac (jB rfl T.dO L2.bT) ae))) (λ_=>rfl))) (dD (aC aS (au (aG K rfl) (by rfl) T.bp L2.aH (ac (Y 0) ae)) af (aE _))))) (ah cz) aA) (ah (aJ (PW.pt (fb (bZ (aM K rfl (au (jh K rfl) (by rfl) T.bh L2.aQ (ac (cS K (Y 0) af) (ac (jB rfl T.Gx L2.vD) ae))) (λ_=>rfl))) (dD (aC As (Jt K rfl (Pd f T.Cv) rfl T.Ev (cS K (Y 0) af) ⟨rfl,rfl,rfl,rfl⟩) (au (aG K rfl) (by rfl) T.bp L2.aH (ac (Y 0) ae)) (aE _))))) (ah cz) aA))),?_⟩
  refine U rfl ⟨_,"tuple",_,true,rfl,.inr ⟨d,U rfl ⟨b,rfl⟩⟩,fA (by decide+kernel),true,rfl,b0 ?_⟩;refine U rfl ⟨_,U rfl ⟨.inr ⟨_,b,rfl⟩,rfl,U rfl (kW (λh=>absurd h (by rw[oi];exact lh rfl)) (λ_=>?_))⟩⟩;refine U rfl (rX b (ak (k:=0) rfl) ?_);refine⟨_,"str",_,true,rfl,.str k,fA (by decide+kernel),true,rfl,b0 ?_⟩;refine U rfl (rX b (ak (k:=0) rfl) ⟨k,U rfl ⟨i,.inr ⟨_,.int ((c.length:Int)+1),rfl,⟨tk,rfl⟩,?_⟩⟩⟩);refine U rfl ⟨_,U rfl ⟨.inr ⟨_,b,rfl⟩,rfl,U rfl ?_⟩⟩;have e:decide (V.int ((c.length:Int)+1)=V.int (((V.str k::c).length:Nat):Int))=true:=m3 (by simp);rw[e];exact q
def uX(T:Txt K mg a):aP P w K mg base dI 5 a.fN.x a.fN.d ["thing","trials"] (FO K):=by
 refine T.fN.ok jr λW A outer s H vs Q E X h=>?_
 ·obtain⟨t,d,l,B,rfl,b,hd,Z,C,h8,q⟩:=h;refine⟨_,(ag (aJ (PW.pt (fb (bZ (aM K rfl (au (dP K rfl) (by rfl) T.bh L2.aQ (ac (Y 0) (ac (jB rfl T.dO L2.bT) ae))) (λ_=>rfl))) (dD (aC sE (au (aG K rfl) (by rfl) T.bp L2.aH (ac (Y 0) ae)) (cA T.zx rfl) (aE _))))) (ah cz) aA) (ah (dw op rfl (Js K rfl rfl T.AJ (ac (Y 0) ae)) (gf K rfl rfl (bo (pF 2 jr.nd) (bo (pF 3 jr.nd) gc))) (ag (aN (pc T.bM (dh T) X (ac (Y 3) (ac (Y 1) ae)))) (ah (aJ (aC (oG K rfl) (Y 3) (gh (C5 K rfl) (Y 0) ja (i9 (Y 2))) (by with_unfolding_all rfl)) (ah cz) aA)))))),?_⟩
  refine U rfl ⟨_,"tuple",_,true,rfl,.inr ⟨t,U rfl ⟨b,rfl⟩⟩,fA (by decide+kernel),true,rfl,b0 ?_⟩;refine U rfl ⟨_,l.length,rfl,.inr ⟨_,b,by simp⟩,_,U rfl ⟨rfl,U rfl (nB (λh=>absurd h (by lia)) (λ_=>?_))⟩⟩;refine U rfl ⟨t,U rfl ⟨b,?_⟩⟩;refine Hk (n:=l.length) (λk j H'=>ao H H'/\(Fk λD F=>j=[some (.ref t),some (.ref d),D,F])) ⟨ao.refl H,_,_,rfl⟩ (λk j H' L h=>⟨_,.str l[k],ao.tseq h.1 b,by rw[ig,hY L];rfl⟩) ?_ ?_
  ·rintro k j m v H2 L⟨c,D,F,rfl⟩⟨r,x,G,rfl,rfl,y⟩;have y:=y _ (ao.tseq c b);rw[ig]at y;obtain⟨z,M,rfl⟩:=Option.map_eq_some_iff.mp y;have I:=ai (o:=.tup [.int k,.str z]) c G;have N:az m r (.tup [.int k,.str z]) r=some (.tup [.int k,.str z]):=O;generalize az m r (.tup [.int k,.str z])=H2 at I N⊢;refine⟨r,U rfl ⟨aT.of N,rfl,_,U rfl (aq ⟨_,U rfl (aq ⟨rfl,?_⟩)⟩)⟩⟩;have f:=Z z (h_ M);refine U rfl (U rfl ⟨z,d,B,rfl,f.1,I _ _ hd,f.2,λH3 s3=>?_⟩);have g:=I.trans s3;refine U rfl (U rfl (U rfl (U rfl ⟨t,U rfl ⟨ao.tseq g b,?_,λp hp=>?_⟩⟩)))
   ·rintro⟨_,e⟩;rw[c_]at e;have e:(if(k:Int)<0 then((k:Int)+(l.length:Int)).toNat else min (k:Int).toNat l.length)=l.length:=e;rw[ir (by exact lh rfl)]at e;lia
   ·rw[CL _ (by exact j2 _)];refine⟨p,U rfl ⟨.inr (aT.of O),rfl,?_,U rfl ?_⟩⟩
    ·rw[<-Q0];exact mS _
    ·rw[<-Q0];have J:z∉l.take (k:Int).toNat:=λh=>by have:=C;rw[<-ta k l,qx]at this;exact this.2.2 z (by simpa using h) z (h_ (i:=0) (by rw[Ql,Nat.add_zero];exact M)) rfl
     have e:nC (.str z) ((l.take (k:Int).toNat).map V.str)=false:=by cases R:nC (.str z) ((l.take (k:Int).toNat).map V.str)with|false=>rfl|true=>unfold nC at R;obtain⟨v,hv,e⟩:=QD.mp R;obtain⟨u,S,rfl⟩:=mo.mp hv;have e:(u==z)=true:=e;rw[eq_of_beq e]at S;exact absurd S J
     show if(if false=true then _ else nC (.str z) ((l.take (k:Int).toNat).map V.str))=true then _ else _
     rw[ir lm,e];exact b0 ⟨(g.trans (ai (ao.refl _) hp)),_,_,rfl⟩
  ·rintro j m⟨c,D,F,rfl⟩;exact⟨⟨_,ao.tseq c b,by rw[c_]⟩,q m c⟩
def uW(T:Txt K mg a):aP P w K mg base dI 3 a.fM.x a.fM.d ["thing","prime","layers"] (FN P w K a):=by
 refine T.fM.ok uE λL A outer s H S Q E N h=>?_
 ·obtain⟨z,M,Z,rfl,I,h4,h0,h1,hn,q⟩:=h;refine⟨_,(ag (aJ (PW.pt (fb (bZ (aM K rfl (pc T.fm (iK T) N (ac (Y 0) ae)) (λ_=>rfl))) (dD (aC sE (Y 0) (Y 1) (aE _))))) (ah cz) aA) (ah (aJ (aC (oG K rfl) (Y 0) (L6 (P:=P) (w:=w) (wb kB ["layer"] [] [3] (aj iy) (ck 3) (Jp (P:=P) (w:=w) (Y 2)) (λcl C s₀ H₀ ex=>⟨(nz kB ["layer"] 3),bY,(aI K rfl (Y 3))⟩))) (by with_unfolding_all rfl)) (ah cz) aA))),?_⟩
  refine U rfl ⟨z,rfl,h0,U rfl (b0 ?_)⟩;refine U rfl (U rfl ⟨z,M.p,rfl,rfl,U rfl (nB (λh=>absurd h (by lia)) (λ_=>?_))⟩);have g:=I.lays;refine U rfl (U rfl ⟨Z.G .ln,U rfl ⟨g,λJ=>?_⟩⟩);refineλD t=>?_;have nd:Z.G .ln≠D:=λz=>by rw[<-z,O]at t;cases t
  have r:H D=none:=by rw[am (o_ nd)]at t;exact t
  refine zr (n:=M.las.length) (λk c u=>(∀b o,H b=some o->b≠Z.G .ln->u b=some o)/\u (Z.G .ln)=some (dE P w (Z.G .ln) (jT (M.las.map cD.nm) λi=>.ref (Z.G (.lo i))) J)/\u D=some (.lst c)/\c=((M.las.map cD.sl).take k).map V.int) ⟨λb o e n=>by rw[am (aD e r),am n];exact e,by rw[am nd,O],O,rfl⟩ (λk c u v h=>⟨h.2.1,by rw[jc,c_];exact v⟩) ?_ ?_
  ·rintro k c R x W v⟨f4,f,j,rfl⟩⟨rfl,y⟩;have F:=hY v;rw[yE,ig,F]at y;have y:V.ref (Z.G (.lo k))=x:=ji y;subst y;have m:=I.layer F;refine aq (jm (bI (jS (f4 _ _ m (λz=>by rw[z,g]at m;cases m)) T.cg T.jE rfl rfl ⟨j,by rw[c_,no,j1];lia,lf v ⟨λb o e n=>by rw[am (aD e r)];exact f4 b o e n,by rw[am nd];exact f,O,?_⟩⟩)));rw[cu (l:=M.las.map cD.sl) (x:=(M.las[k]).sl) (by rw[ig,F];rfl),il];rfl
  ·rintro c R⟨f4,f,j,rfl⟩;refine⟨⟨f,by rw[jc,c_];exact f_ _⟩,Z.G .ln,_,J,f,D,_,rfl,.inl (aO.of (by rw[am (o_ nd)];exact j)),rfl,oM _,_,rfl,?_⟩;rw[ku (by rw[c_];exact f_ _)];show if(if false=true then _ else nC (.int z) ((M.las.map cD.sl).map V.int))=true then _ else _
   rw[ir lm,Du,nk hn];refine b0 (q _ λb o e=>?_)
   by_cases B:b=Z.G .ln
   ·rw[B,g]at e;rw[B,O];exact e
   ·rw[am B];exact f4 b o e B
def uV(T:Txt K mg a):aP P w K mg base dI 12 a.fL.x a.fL.d ["deed","layers","trials"] (FL K):=by
 refine T.fL.ok uD λI A outer s H vs Q E f h=>?_
 ·obtain⟨d,J,tr,ar,sh,ru,x,y,r,L,l,M,N,tk,rfl,g,O,R,k,i,j,m,n,h1,h2,h3,h4,o,p,t,u,v,z,B,C,D,F,q⟩:=h;refine⟨_,(ag (aN (pc T.gQ (pH T) f (ac (cS K (Y 0) af) (ac (Y 2) ae)))) (ag (aN (pc T.bM (dh T) f (ac (cS K (Y 0) af) (ac (Y 1) ae)))) (ag (aN (pc T.gS (wD T) f (ac (cS K (Y 0) af) ae))) (ag (aN (pc T.gP (wz T) f (ac (cS K (Y 0) af) ae))) (ah (aN (pc T.fN (uX T) f (ac (cS K (Y 0) af) (ac (Y 2) ae))))))))),?_⟩
  refine U rfl (rX g rfl (U rfl ⟨x,tr,tk,rfl,O,i,j,λH1 G=>?_⟩));refine U rfl (rX (ao.tseq G g) rfl (U rfl ⟨y,J,N,rfl,R,G _ _ k,m,λH2 S=>?_⟩));have c:=G.trans S;refine U rfl (rX (ao.tseq c g) rfl ⟨ar,l,rfl,ao.tseq c n,h1,h2,h3,h4,λH3 V=>?_⟩);have e:=c.trans V;refine U rfl (rX (ao.tseq e g) rfl ⟨r,ru,L,rfl,o.kp (.of e),p,t,u,v,z,λH4 W=>?_⟩);have b:=e.trans W;exact U rfl (rX (ao.tseq b g) rfl (U rfl ⟨sh,tr,M,tk,rfl,ao.tseq b B,b _ _ i,C,D,F,λX Z=>q X (b.trans Z)⟩))
end
inductive Dd|layer(nm:Str)(sl:Int)|trial(x:et)|share(t:et)(ns:RN)|deal(t:et)(z:Int)(ws:RN)|hold(l:cD)(z:Int)|pause(t:et)(b:Bool)|close(t:et)|bar(g:Str)(t:et)|visit(g:Str)
def Dd.clo:Dd->Bool|.share t _=>t.clo|.deal t _ _=>t.clo|.pause t _=>t.clo|.close t=>t.clo|_=>false
inductive ii(K:RC)(H:Hp)(M:bG):Dd->List V->Prop|layer{nm:Str}{sl:Int}(h1:Wd nm)(h2:nm∉M.las.map cD.nm)(h3:0<=sl/\sl<=M.p)(h4:sl∉M.las.map cD.sl)(h5:M.las.length<4):ii K H M (.layer nm sl) [.str "layer",.str nm,.int sl]|trial{x:et}{ar sh ra:Addr}{ws:RI}(h1:KA M x)(h2:x.nm∉M.trs.map et.nm)(h3:aT K H ar (x.arms.map V.str))(h4:eY K H x.rule (.ref ra))(h5:x.rule.cnt<=30)(h6:kA ws x.rule)(h7:∀w∈ws,Wd w)(h8:ws.length<=3)(h9:aT K H sh (x.shuts.map V.str))(ha:∀s∈x.shuts,s∈M.trs.map et.nm)(hb:x.shuts.Nodup)(hc:x.pau=false)(hd:x.clo=false)(he:x.bar=[])(hf:M.trs.length<10):ii K H M (.trial x) [.str "trial",.str x.nm,.str x.home,.ref ar,.ref ra,.ref sh]|share{t:et}{ns:RN}{nv:Addr}(h1:t∈M.trs)(h2:aT K H nv (ns.map V.int))(h3:ns.length=t.arms.length)(h4:∀x∈ns,0<=x):ii K H M (.share t ns) [.str "share",.str t.nm,.ref nv]|deal{t:et}{z:Int}{ws:RN}{wv:Addr}(h1:t∈M.trs)(hz:0<=z/\z<=1000)(h2:aT K H wv (ws.map V.int))(h3:ws.length=t.arms.length)(h4:∀x∈ws,1<=x/\x<=df):ii K H M (.deal t z ws) [.str "deal",.str t.nm,.int z,.ref wv]|hold{l:cD}{z:Int}(h1:l∈M.las)(h2:0<=z):ii K H M (.hold l z) [.str "hold",.str l.nm,.int z]|pause{t:et}(h1:t∈M.trs):ii K H M (.pause t true) [.str "pause",.str t.nm]|go{t:et}(h1:t∈M.trs):ii K H M (.pause t false) [.str "go",.str t.nm]|close{t:et}(h1:t∈M.trs):ii K H M (.close t) [.str "close",.str t.nm]|bar{g:Str}{t:et}(h1:Bw g)(h2:t∈M.trs):ii K H M (.bar g t) [.str "bar",.str g,.str t.nm]|visit{g:Str}{mv:V}{ms:List (Str×Int)}(h1:Bw g)(h2:tZ K H ms mv)(h3:∀m∈ms,Wd m.1/\-df<=m.2/\m.2<=df)(h4:(ms.map Prod.fst).Nodup)(h5:ms.length<=8):ii K H M (.visit g) [.str "visit",.str g,mv]
theorem ii.kp(e:Kp H H')(h:ii K H M d b):ii K H' M d b:=by cases h with|layer h1 h2 h3 h4 h5=>exact .layer h1 h2 h3 h4 h5|trial h1 h2 h3 h4 h5 h6 h7 h8 h9 c f hc hd g i=>exact .trial h1 h2 (e.tq h3) (h4.kp e) h5 h6 h7 h8 (e.tq h9) c f hc hd g i|share h1 h2 h3 h4=>exact .share h1 (e.tq h2) h3 h4|deal h1 j h2 h3 h4=>exact .deal h1 j (e.tq h2) h3 h4|hold h1 h2=>exact .hold h1 h2|pause h1=>exact .pause h1|go h1=>exact .go h1|close h1=>exact .close h1|bar h1 h2=>exact .bar h1 h2|visit h1 h2 h3 h4 h5=>exact .visit h1 (h2.kp e) h3 h4 h5
inductive zI(K:RC)(H:Hp)(many:Nat):Str->List V->Prop|share{p:Addr}{l:RN}(h1:aT K H p (l.map V.int))(h2:∀i∈l,0<=i)(h3:l.length=many):zI K H many "share" [.ref p]|deal{z:Int}{p:Addr}{l:RN}(hz:0<=z/\z<=1000)(h1:aT K H p (l.map V.int))(h2:∀i∈l,1<=i/\i<=df)(h3:l.length=many):zI K H many "deal" [.int z,.ref p]|other{k:Str}(h1:k≠"share")(h2:k≠"deal"):zI K H many k []
inductive LB(P:RH)(w:World)(K:RC)(a:jl)(vs:List V)(H:Hp)(Q:VK)(E:XK):Prop|mk(d:Addr)(M:bG)(Z:ZS)(c:Nat)(k:Str)(t:et)(xs:List V)(_:vs=[.ref d,.ref (Z.G .tn)])(_:aT K H d (.str k::.str t.nm::xs))(_:bA P w K a H M Z)(_:nu M c)(_:t∈M.trs)(_:zI K H t.arms.length k xs)(_:(t.clo=false->∀H',ao H H'->Q .non H'))(_:(t.clo=true->∀H',ao H H'->E (.ref a.sw) none H'))
section
def wA(T:Txt K mg a):aP P w K mg base (yd P w) 5 a.eO.x a.eO.d ["deed","trials"] (LB P w K a):=by
 refine T.eO.okE kf λF A outer s H N Q E n h=>?_
 ·obtain⟨d,M,Z,c,k,t,O,rfl,o,y,z,B,I,q,r⟩:=h;refine⟨_,(ag (aN (pc T.bM (dh T) n (ac (cS K (Y 0) af) (ac (Y 1) ae)))) (ag (bf 2 kf.nd (eC (cj n) (Y 1) (cS K (Y 0) af) (λ_ _=>rfl))) (ag (bf 3 kf.nd (au (aG K rfl) (by rfl) T.bp L2.aH (ac (aI K rfl (Y 2)) ae))) (ag (aJ (aC aS (cS K (Y 0) af) aB (aE _)) (ah (aN (pc T.eW (tJ T) n (ac (cS K (Y 0) af) (ac (Y 3) ae))))) (ah (aJ (aC aS (cS K (Y 0) af) aB (aE _)) (ah (aN (pc T.ee (qS T) n (ac (cS K (Y 0) af) (ac (cS K (Y 0) af) (ac (Y 3) ae)))))) aA))) (ah (aJ (aM K rfl (aI K rfl (Y 2)) (λ_=>rfl)) (ah (An T.xL rfl T.AQ rfl Al (ac aB ae))) aA)))))),?_⟩
  obtain⟨j,u⟩:=k_.mp B;have l:=z.tr t B;have C:=z.tget (Z:=Z) u;have J:=l.a4;refine U rfl (rX o (ak (k:=1) rfl) (U rfl ⟨t.nm,Z.G .tn,_,rfl,l.wd,y.tris,by rw[C];rfl,λD e=>?_⟩));have g:=y.same e;have p:=g.trial u;obtain⟨v,-,-⟩:=g.trs j t u;refine U rfl (U rfl (rX (ao.tseq e o) (ak (k:=1) rfl) (rG (.ref (Z.G (.tr j))) (by rw[<-C];exact d0.k (k:=.inr t.nm) g.tris) (aq ?_))));refine jS p T.be T.iE rfl rfl ⟨_,t.arms.length,rfl,.inr ⟨_,v,by simp⟩,aq ?_⟩;refine U rfl (rX (ao.tseq e o) (ak (k:=0) rfl) ⟨rfl,U rfl ?_⟩);have f:=ao.tseq e o;cases I with
 |share h1 h2 h3=>
   refine bO ?_;refine U rfl (rX f (ak (k:=2) rfl) (U rfl ⟨_,_,by rw[h3];rfl,ao.tseq e h1,h2,by lia,λm i=>?_⟩));refine jS (i _ _ p) T.be T.d6 rfl rfl ⟨t.clo,rfl,?_⟩;cases b:t.clo
   ·exact b0 (q b m (e.trans i))
   ·exact bI ⟨ls rfl,r b m (e.trans i)⟩|deal L h1 h2 h3=>
   refine wn ?_;refine U rfl (rX f (ak (k:=0) rfl) ⟨rfl,U rfl (bO ?_)⟩);refine U rfl (rX f (ak (k:=2) rfl) (U rfl (rX f (ak (k:=3) rfl) (U rfl ⟨_,_,_,by rw[h3];rfl,L,ao.tseq e h1,h2,by lia,λm i=>?_⟩))));refine jS (i _ _ p) T.be T.d6 rfl rfl ⟨t.clo,rfl,?_⟩;cases b:t.clo
   ·exact b0 (q b m (e.trans i))
   ·exact bI ⟨ls rfl,r b m (e.trans i)⟩|other h1 h2=>
   refine mR h1 ?_;refine U rfl (rX f (ak (k:=0) rfl) ⟨rfl,U rfl (mR h2 ?_)⟩);refine jS p T.be T.d6 rfl rfl ⟨t.clo,rfl,?_⟩;cases b:t.clo
   ·exact b0 (q b D e)
   ·exact bI ⟨ls rfl,r b D e⟩
end
inductive Jc(P:RH)(w:World)(K:RC)(a:jl)(vs:List V)(H:Hp)(Q:VK)(E:XK):Prop|mk(dv:Addr)(M:bG)(Z:ZS)(c:Nat)(d:Dd)(xs:List V)(_:vs=[.ref dv,.int M.p,.ref (Z.G .ln),.ref (Z.G .tn)])(_:aT K H dv xs)(_:bA P w K a H M Z)(_:nu M c)(_:ii K H M d xs)(_:(d.clo=false->∀H',ao H H'->Q .non H'))(_:(d.clo=true->∀H',ao H H'->E (.ref a.sw) none H'))
section
def wC(T:Txt K mg a)(X:w.params=a.pm):aP P w K mg base (yd P w) 13 a.eP.x a.eP.d ["deed","prime","layers","trials"] (Jc P w K a):=by
 refine T.eP.okE nK λaa A outer s H vs Q E p h=>?_
 ·obtain⟨n,M,Z,c,d,xs,rfl,e,r,u,hD,q,C⟩:=h;refine⟨_,(ag (aN (pc T.gR (wB T X) p (ac (Y 0) ae))) (ag (bf 4 nK.nd (cS K (Y 0) af)) (ah (aJ (aC aS (Y 4) aB (aE _)) (ag (aN (pc T.gQ (pH T) p (ac (cS K (Y 0) af) (ac (Y 2) ae)))) (ah (aN (pc T.fM (uW T) p (ac (cS K (Y 0) af) (ac (Y 1) (ac (Y 2) ae))))))) (ah (aJ (aC aS (Y 4) aB (aE _)) (ah (aN (pc T.fL (uV T) p (ac (Y 0) (ac (Y 2) (ac (Y 3) ae)))))) (ah (aJ (aC aS (Y 4) aB (aE _)) (ag (aN (pc T.bM (dh T) p (ac (cS K (Y 0) af) (ac (Y 2) ae)))) (ah (aN (pc T.fQ (u0 T) p (ac (cS K (Y 0) af) ae))))) (ah (aJ (aC aS (Y 4) aB (aE _)) (ag (aN (pc T.dq (gi T) p (ac (cS K (Y 0) af) ae))) (ah (aN (pc T.bM (dh T) p (ac (cS K (Y 0) af) (ac (Y 3) ae)))))) (ah (aJ (aC aS (Y 4) aB (aE _)) (ag (aN (pc T.dq (gi T) p (ac (cS K (Y 0) af) ae))) (ah (aN (pc T.fO (uY T) p (ac (cS K (Y 0) af) ae))))) (ah (aN (bP ((wA T).mono (by decide)) p rfl T.eO.m T.eO.f.kp T.eO.b .nil iD (ac (Y 0) (ac (Y 3) ae))))))))))))))))),?_⟩
  have v:∀t∈M.trs,(aW (jT (M.trs.map et.nm) λi=>V.ref (Z.G (.tr i))) (.inr t.nm)).isSome=true:=λt ht=>by obtain⟨j,O⟩:=k_.mp ht;rw[u.tget (Z:=Z) O];rfl
  have B:∀l∈M.las,(aW (jT (M.las.map cD.nm) λi=>V.ref (Z.G (.lo i))) (.inr l.nm)).isSome=true:=λl hl=>by obtain⟨j,O⟩:=k_.mp hl;rw[u.lget (Z:=Z) O];rfl
  cases hD with|@layer nm sl h1 h2 h3 h4 h5=>refine U rfl ⟨n,_,_,rfl,e,T.rJ,?_⟩;refine U rfl (rX e (ak (k:=0) rfl) (aq ?_));refine U rfl ⟨rfl,U rfl (bO ?_)⟩;refine U rfl (rX e (ak (k:=1) rfl) (U rfl ⟨_,Z.G .ln,_,rfl,h1,r.lays,mE h2,λL o=>?_⟩));exact U rfl (rX (ao.tseq o e) (ak (k:=2) rfl) (U rfl (U rfl ⟨sl,M,Z,rfl,r.same o,by exact t2 h5,h3.1,h3.2,h4,λD F=>q rfl D (o.trans F)⟩)))|@trial x ar sh ra R h1 h2 h3 h4 h5 h6 h7 h8 h9 ha hb hc hd he hf=>refine U rfl ⟨n,_,_,rfl,e,T.rD,?_⟩;refine U rfl (rX e (ak (k:=0) rfl) (aq ?_));refine U rfl ⟨rfl,U rfl (wn ?_)⟩;refine U rfl ⟨rfl,U rfl (bO ?_)⟩;obtain⟨S,I,J⟩:=mo.mp h1.hm;refine U rfl (U rfl (U rfl ⟨n,Z.G .ln,Z.G .tn,ar,sh,.ref ra,x.nm,x.home,x.rule,R,x.arms,x.shuts,_,_,rfl,e,h1.wd,by rw[<-J];exact(u.la S I).wd,r.lays,r.tris,mE h2,by rw[<-J];exact B S I,h3,h1.aw,h1.nd,h1.a1,h1.a4,h4,h1.hg,h5,h6,h7,h8,h9,λy hy=>?_,hb,h1.s8,q rfl⟩));obtain⟨z,N,W⟩:=mo.mp (ha y hy);exact⟨by rw[<-W];exact(u.tr z N).wd,by rw[<-W];exact v z N⟩|@hold l z h1 h2=>refine U rfl ⟨n,_,_,rfl,e,T.tT,?_⟩;refine U rfl (rX e (ak (k:=0) rfl) (aq ?_));(iterate 2 refine U rfl ⟨rfl,U rfl (wn ?_)⟩);refine U rfl ⟨rfl,U rfl (bO ?_)⟩;refine U rfl (rX e (ak (k:=1) rfl) (U rfl ⟨_,Z.G .ln,_,rfl,(u.la l h1).wd,r.lays,B l h1,λL o=>?_⟩));exact U rfl ⟨n,_,2,_,rfl,rfl,ao.tseq o e,ak (k:=2) rfl,_,rfl,h2,q rfl L o⟩|@bar g t h1 h2=>refine U rfl ⟨n,_,_,rfl,e,T.vh,?_⟩;refine U rfl (rX e (ak (k:=0) rfl) (aq ?_));(iterate 3 refine U rfl ⟨rfl,U rfl (wn ?_)⟩);refine U rfl ⟨rfl,U rfl (bO ?_)⟩;refine U rfl (rX e (ak (k:=1) rfl) ⟨g,rfl,h1,λL o=>?_⟩);exact U rfl (rX (ao.tseq o e) (ak (k:=2) rfl) (U rfl ⟨t.nm,Z.G .tn,_,rfl,(u.tr t h2).wd,o _ _ r.tris,v t h2,λD F=>q rfl D (o.trans F)⟩))|@visit g mv ms h1 h2 h3 h4 h5=>refine U rfl ⟨n,_,_,rfl,e,T.rC,?_⟩;refine U rfl (rX e (ak (k:=0) rfl) (aq ?_));(iterate 4 refine U rfl ⟨rfl,U rfl (wn ?_)⟩);refine U rfl ⟨rfl,U rfl (bO ?_)⟩;refine U rfl (rX e (ak (k:=1) rfl) ⟨g,rfl,h1,λL o=>?_⟩);exact U rfl (rX (ao.tseq o e) (ak (k:=2) rfl) ⟨mv,ms,rfl,h2.kp (.of o),h3,h4,h5,λD F=>q rfl D (o.trans F)⟩)|@share t ns nv h1 h2 h3 h4=>refine U rfl ⟨n,_,_,rfl,e,T.rE,?_⟩;refine U rfl (rX e (ak (k:=0) rfl) (aq ?_));(iterate 5 refine U rfl ⟨rfl,U rfl (wn ?_)⟩);exact U rfl (U rfl ⟨n,M,Z,c,_,t,_,rfl,e,r,u,h1,.share h2 h4 h3,q,C⟩)|@deal t z R wv h1 N h2 h3 h4=>refine U rfl ⟨n,_,_,rfl,e,T.tU,?_⟩;refine U rfl (rX e (ak (k:=0) rfl) (aq ?_));(iterate 5 refine U rfl ⟨rfl,U rfl (wn ?_)⟩);exact U rfl (U rfl ⟨n,M,Z,c,_,t,_,rfl,e,r,u,h1,.deal N h2 h4 h3,q,C⟩)|@pause t h1=>refine U rfl ⟨n,_,_,rfl,e,T.rH,?_⟩;refine U rfl (rX e (ak (k:=0) rfl) (aq ?_));(iterate 5 refine U rfl ⟨rfl,U rfl (wn ?_)⟩);exact U rfl (U rfl ⟨n,M,Z,c,_,t,_,rfl,e,r,u,h1,.other (by decide+kernel) (by decide+kernel),q,C⟩)|@go t h1=>refine U rfl ⟨n,_,_,rfl,e,T.wT,?_⟩;refine U rfl (rX e (ak (k:=0) rfl) (aq ?_));(iterate 5 refine U rfl ⟨rfl,U rfl (wn ?_)⟩);exact U rfl (U rfl ⟨n,M,Z,c,_,t,_,rfl,e,r,u,h1,.other (by decide+kernel) (by decide+kernel),q,C⟩)|@close t h1=>refine U rfl ⟨n,_,_,rfl,e,T.rK,?_⟩;refine U rfl (rX e (ak (k:=0) rfl) (aq ?_));(iterate 5 refine U rfl ⟨rfl,U rfl (wn ?_)⟩);exact U rfl (U rfl ⟨n,M,Z,c,_,t,_,rfl,e,r,u,h1,.other (by decide+kernel) (by decide+kernel),q,C⟩)
end
def Hz(b:RN)(n:Nat):∀i∈deal b n,0<=i:=λi hi=>by obtain⟨k,c⟩:=k_.mp hi;have:=(zq b n k).1;unfold gd at this;rw[si,c]at this;exact this
inductive eI(M:bG):Dd->bG->Prop|layer{nm:Str}{sl:Int}:eI M (.layer nm sl) (zE M nm sl)|trial{x:et}:eI M (.trial x) (zD M x)|share{t:et}{ns:RN}{i:Nat}{l:cD}(hl:M.las[i]?=some l)(hh:l.nm=t.home)(hn:j9 l.S (sx t.nm t.arms ns)<=((pW M.p l.S.oc).length:Int)):eI M (.share t ns) (on M i l t ns)|deal{t:et}{z:Int}{ws:RN}{i:Nat}{l:cD}(hl:M.las[i]?=some l)(hh:l.nm=t.home)(hn:j9 l.S (sx t.nm t.arms (deal ws z.toNat))<=((pW M.p l.S.oc).length:Int)):eI M (.deal t z ws) (on M i l t (deal ws z.toNat))|hold{l:cD}{z:Int}{i:Nat}(hl:M.las[i]?=some l):eI M (.hold l z) (Ha M i l z)|pause{t:et}{b:Bool}{j:Nat}(hj:M.trs[j]?=some t):eI M (.pause t b) (M.setT j {t with pau:=b})|close{t:et}{i j:Nat}{l:cD}(hj:M.trs[j]?=some t)(hl:M.las[i]?=some l)(hh:l.nm=t.home):eI M (.close t) (on (M.setT j {t with clo:=true}) i l {t with clo:=true} (oX t))|bar{g:Str}{t:et}{i j:Nat}{l:cD}(hj:M.trs[j]?=some t)(hl:M.las[i]?=some l)(hh:l.nm=t.home):eI M (.bar g t) (CQ M i j l t g)|visit{g:Str}{M':bG}(h:k9 g M M'):eI M (.visit g) M'
def Dd.adds:Dd->Bool|.layer _ _=>true|.trial _=>true|_=>false
def Dd.may:Dd->Bool|.layer _ _=>false|.trial _=>false|.visit _=>false|_=>true
def Dd.clo_may{d:Dd}(h:d.clo=true):d.may=true:=by cases d<;>first|rfl|cases h
def Dd.may_adds{d:Dd}(h:d.may=true):d.adds=false:=by cases d<;>first|rfl|cases h
def M5(K:RC)(H':Hp)(M:bG)(d:Dd)(c:bG)(e:List V):Prop:=∀g,d=.visit g->∃b,iH K H' e b/\Kz g M c b
inductive LL(P:RH)(w:World)(K:RC)(a:jl)(vs:List V)(H:Hp)(Q:VK)(E:XK):Prop|mk(M:bG)(Z:ZS)(c:Nat)(dv:Addr)(d:Dd)(xs:List V)(_:vs=[.ref (Z.G .hh),.ref dv])(_:cP P w K a H M Z c)(_:c<=99)(_:(∀g,d=.visit g->∀l∈M.las,l.ins.length<=62))(_:aT K H dv xs)(_:ii K H M d xs)(_:(∀(r:Addr)(us:List V)(M':bG)(Z':ZS)(H':Hp),eI M d M'->fH H M Z H' M' Z'->cP P w K a H' M' Z' (c+1)->H r=none->H' r=some (.lst us)->Z'.ds=Z.ds->M5 K H' M d M' us->Q (.ref r) H'))(_:(d.may=true->∀H',ao H H'->E (.ref a.mO) none H'))
section
def wJ(T:Txt K mg a):aP P w K mg base (yd P w) 11 a.fJ.x a.fJ.d ["self","deed"] (LL P w K a):=by
 refine T.fJ.okE nL λas A outer s H vs Q E p h=>?_
 ·obtain⟨M,Z,c,dv,d,xs,rfl,y,hc,J,u,hD,q,W⟩:=h;refine⟨_,(ag (bf 2 nL.nd (cS K (Y 1) af)) (ag (aJ (aC aS (Y 2) aB (aE _)) (ah (ax (bw (Y 0) T.aF T.cY.m ((pM (P:=P) (w:=w) T).mono (by decide)) p T.cY.b .nil bx (ac (cS K (Y 1) af) (ac (cS K (Y 1) af) ae))))) aA) (ag (aJ (aC aS (Y 2) aB (aE _)) (ah (ax (bw (Y 0) T.aF T.cX.m ((pL (P:=P) (w:=w) T).mono (by decide)) p T.cX.b .nil bx (ac (cS K (Y 1) af) (ac (t7 T.GC ((tK (P:=P) (w:=w) T).mono (by decide)) p rfl T.JL T.dQ.b .nil bx (ac (cS K (Y 1) af) (ac (cS K (Y 1) af) (ac (cS K (Y 1) af) (ac (cS K (Y 1) af) ae))))) ae))))) aA) (ag (aJ (aC aS (Y 2) aB (aE _)) (ah (ax (bw (Y 0) T.aF T.bE.m ((gj (P:=P) (w:=w) T).mono (by decide)) p T.bE.b .nil iD (ac (cS K (Y 1) af) (ac (cS K (Y 1) af) ae))))) aA) (ag (aJ (aC aS (Y 2) aB (aE _)) (ah (ax (bw (Y 0) T.aF T.bE.m ((gj (P:=P) (w:=w) T).mono (by decide)) p T.bE.b .nil iD (ac (cS K (Y 1) af) (ac (pc T.xO (Gj T) p (ac (cS K (Y 1) af) (ac (cS K (Y 1) af) ae))) ae))))) aA) (ag (aJ (aC aS (Y 2) aB (aE _)) (ah (ax (bw (Y 0) T.aF T.dz.m ((qT (P:=P) (w:=w) T).mono (by decide)) p T.dz.b .nil iD (ac (cS K (Y 1) af) (ac (cS K (Y 1) af) ae))))) aA) (ag (aJ (aC aS (Y 2) aB (aE _)) (ah (ax (bw (Y 0) T.aF T.ce.m ((j8 (P:=P) (w:=w) T).mono (by decide)) p T.ce.b .nil bx (ac (cS K (Y 1) af) (ac fc ae))))) aA) (ag (aJ (aC aS (Y 2) aB (aE _)) (ah (ax (bw (Y 0) T.aF T.ce.m ((j8 (P:=P) (w:=w) T).mono (by decide)) p T.ce.b .nil bx (ac (cS K (Y 1) af) (ac fc ae))))) aA) (ag (aJ (aC aS (Y 2) aB (aE _)) (ah (ax (bw (Y 0) T.aF T.cZ.m ((pN (P:=P) (w:=w) T).mono (by decide)) p T.cZ.b .nil iD (ac (cS K (Y 1) af) ae)))) aA) (ag (aJ (aC aS (Y 2) aB (aE _)) (ah (ax (bw (Y 0) T.aF T.dY.m ((tN (P:=P) (w:=w) T).mono (by decide)) p T.dY.b .nil bx (ac (cS K (Y 1) af) (ac (cS K (Y 1) af) ae))))) aA) (ah (ax (bw (Y 0) T.aF T.cW.m ((pK (P:=P) (w:=w) T).mono (by decide)) p T.cW.b .nil bx (ac (cS K (Y 1) af) (ac (cS K (Y 1) af) ae))))))))))))))),?_⟩
  have F:=y.g.house;cases hD with|@layer nm sl h1 h2 h3 h4 h5=>refine U rfl (rX u (ak (k:=0) rfl) (aq ?_));refine U rfl ⟨rfl,U rfl (bO ?_)⟩;exact pC F rfl rfl (U rfl (rX u (ak (k:=1) rfl) (U rfl (rX u (ak (k:=2) rfl) ⟨M,Z,c,nm,sl,rfl,y,h1,h2,h3,h5,λr B H' st f p n v=>q r [] _ B H' .layer st (f.mono (rk c)) p n v (λ_ z=>nomatch z)⟩))))|@trial x ar sh ra L h1 h2 h3 h4 h5 h6 h7 h8 h9 ha hb X hd he hf=>
   refine U rfl (rX u (ak (k:=0) rfl) (aq ?_));refine U rfl ⟨rfl,U rfl (wn ?_)⟩;refine U rfl ⟨rfl,U rfl (bO ?_)⟩;refine pC F rfl rfl (U rfl (rX u (ak (k:=1) rfl) ?_));refine U rfl (rX u (ak (k:=2) rfl) (U rfl (rX u (ak (k:=3) rfl) (U rfl (rX u (ak (k:=4) rfl) (U rfl (rX u (ak (k:=5) rfl) (λt ty N aa a2=>?_))))))));have s2:ao H (az (az H ty (.own t)) t (.ins a.fq ty [])):=λb o e=>by rw[am (aD e N),am (aD e aa)];exact e
   have R:az (az H ty (.own t)) t (.ins a.fq ty []) t=some (.ins a.fq ty []):=O;generalize az (az H ty (.own t)) t (.ins a.fq ty [])=H2 at s2 R⊢;refine⟨t,ty,ar,ra,sh,x.home,rfl,R,λba H3 ad f3 al an=>⟨rfl,?_⟩⟩;have s3:ao H H3:=λb o e=>f3 b o (s2 b o e) (aD e N);exact⟨M,Z,c,H,t,ba,ty,ar,sh,.ref ra,x,rfl,y,s3,N,s2.free ad,an,al,h3,h4,h9,X,hd,he,h1,h2,hf,λr B H' st f p n v=>q r [] _ B H' .trial st (f.mono (rk c)) p n v (λ_ z=>nomatch z)⟩|@share t ns nv h1 h2 h3 h4=>obtain⟨j,C⟩:=k_.mp h1;obtain⟨i,l,D,hh⟩:=y.ok.home h1;refine U rfl (rX u (ak (k:=0) rfl) (aq ?_));(iterate 2 refine U rfl ⟨rfl,U rfl (wn ?_)⟩);refine U rfl ⟨rfl,U rfl (bO ?_)⟩;exact pC F rfl rfl (U rfl (rX u (ak (k:=1) rfl) (U rfl (rX u (ak (k:=2) rfl) ⟨M,Z,c,i,j,l,t,nv,ns,rfl,y,hc,C,D,hh,.inr h2,h3,h4,λG r I B H' st f p n v=>q r I _ B H' (.share D hh G) st f p n v (λ_ z=>nomatch z),λ_=>W rfl⟩))))|@deal t z L wv h1 hz h2 h3 h4=>
   obtain⟨j,C⟩:=k_.mp h1;obtain⟨i,l,D,hh⟩:=y.ok.home h1;have S:=y.ok.tr t h1;have a1:=S.a1;have a4:=S.a4;refine U rfl (rX u (ak (k:=0) rfl) (aq ?_));(iterate 3 refine U rfl ⟨rfl,U rfl (wn ?_)⟩);refine U rfl ⟨rfl,U rfl (bO ?_)⟩;refine pC F rfl rfl (U rfl (rX u (ak (k:=1) rfl) (U rfl (rX u (ak (k:=2) rfl) (U rfl (rX u (ak (k:=3) rfl) ⟨z.toNat,wv,L,by rw[show((z.toNat:Nat):Int)=z by lia];rfl,by lia,h2,by lia,by lia,λtv H1 V N=>?_⟩))))));have ap:(deal L z.toNat).length=t.arms.length:=by rw[mK];exact h3
   exact⟨M,Z,c,i,j,l,t,tv,deal L z.toNat,rfl,y.same V,hc,C,D,hh,.inr (aT.of N),ap,Hz L z.toNat,λG r I B H' st f p n v=>q r I _ B H' (.deal D hh G) ((fH.of V).trans st) f (V.free p) n v (λ_ z=>nomatch z),λ_ H' s'=>W rfl H' (V.trans s')⟩|@hold l z h1 h2=>obtain⟨i,D⟩:=k_.mp h1;refine U rfl (rX u (ak (k:=0) rfl) (aq ?_));(iterate 4 refine U rfl ⟨rfl,U rfl (wn ?_)⟩);refine U rfl ⟨rfl,U rfl (bO ?_)⟩;exact pC F rfl rfl (U rfl (rX u (ak (k:=1) rfl) (U rfl (rX u (ak (k:=2) rfl) ⟨M,Z,c,i,l,z,rfl,y,hc,D,h2,λG r B H' st f p n v=>q r [] _ B H' (.hold D) st f p n v (λ_ z=>nomatch z),λ_=>W rfl⟩))))|@pause t h1=>obtain⟨j,C⟩:=k_.mp h1;refine U rfl (rX u (ak (k:=0) rfl) (aq ?_));(iterate 5 refine U rfl ⟨rfl,U rfl (wn ?_)⟩);refine U rfl ⟨rfl,U rfl (bO ?_)⟩;exact pC F rfl rfl (U rfl (rX u (ak (k:=1) rfl) ⟨M,Z,c,j,t,true,rfl,y,C,λr H' st f p n=>q r [] _ Z H' (.pause C) st (f.mono (rk c)) p n rfl (λ_ z=>nomatch z)⟩))|@go t h1=>obtain⟨j,C⟩:=k_.mp h1;refine U rfl (rX u (ak (k:=0) rfl) (aq ?_));(iterate 6 refine U rfl ⟨rfl,U rfl (wn ?_)⟩);refine U rfl ⟨rfl,U rfl (bO ?_)⟩;exact pC F rfl rfl (U rfl (rX u (ak (k:=1) rfl) ⟨M,Z,c,j,t,false,rfl,y,C,λr H' st f p n=>q r [] _ Z H' (.pause C) st (f.mono (rk c)) p n rfl (λ_ z=>nomatch z)⟩))|@close t h1=>obtain⟨j,C⟩:=k_.mp h1;obtain⟨i,l,D,hh⟩:=y.ok.home h1;refine U rfl (rX u (ak (k:=0) rfl) (aq ?_));(iterate 7 refine U rfl ⟨rfl,U rfl (wn ?_)⟩);refine U rfl ⟨rfl,U rfl (bO ?_)⟩;exact pC F rfl rfl (U rfl (rX u (ak (k:=1) rfl) ⟨M,Z,c,i,j,l,t,rfl,y,hc,C,D,hh,λr I B H' st f p n v=>q r I _ B H' (.close C D hh) st f p n v (λ_ z=>nomatch z)⟩))|@bar g t h1 h2=>obtain⟨j,C⟩:=k_.mp h2;obtain⟨i,l,D,hh⟩:=y.ok.home h2;refine U rfl (rX u (ak (k:=0) rfl) (aq ?_));(iterate 8 refine U rfl ⟨rfl,U rfl (wn ?_)⟩);refine U rfl ⟨rfl,U rfl (bO ?_)⟩;exact pC F rfl rfl (U rfl (rX u (ak (k:=1) rfl) (U rfl (rX u (ak (k:=2) rfl) ⟨M,Z,c,i,j,l,t,g,rfl,y,hc,C,D,hh,h1,λr I B H' st f p n v=>q r I _ B H' (.bar C D hh) st f p n v (λ_ z=>nomatch z)⟩))))|@visit g mv ms h1 h2 h3 h4 h5=>refine U rfl (rX u (ak (k:=0) rfl) (aq ?_));(iterate 9 refine U rfl ⟨rfl,U rfl (wn ?_)⟩);exact pC F rfl rfl (U rfl (rX u (ak (k:=1) rfl) (U rfl (rX u (ak (k:=2) rfl) ⟨M,Z,c,g,mv,ms,rfl,y,hc,J _ rfl,h1,h2,h5,λr I M' B H' vt st f p n v ha=>q r I M' B H' (.visit vt) st f p n v (λ_ z=>by cases z;exact ha)⟩))))
end
inductive NT(P:RH)(w:World)(K:RC)(a:jl)(vs:List V)(H:Hp)(Q:VK)(E:XK):Prop|mk(M:bG)(Z:ZS)(c:Nat)(dv:Addr)(d:Dd)(xs:List V)(_:vs=[.ref (Z.G .hh),.ref dv])(_:cP P w K a H M Z c)(_:c<=99)(_:(∀g,d=.visit g->∀l∈M.las,l.ins.length<=62))(_:aT K H dv xs)(_:ii K H M d xs)(_:(d.clo=false->∀(r:Addr)(us:List V)(M':bG)(Z':ZS)(H':Hp),eI M d M'->fH H M Z H' M' Z'->cP P w K a H' M' Z' (c+1)->H r=none->H' r=some (.lst us)->M5 K H' M d M' us->Q (.ref r) H'))(_:(d.may=true->∀H',ao H H'->E (.ref a.mO) none H'))(_:(d.may=true->∀H',ao H H'->E (.ref a.sw) none H'))
section
def sI(T:Txt K mg a)(W:w.params=a.pm):aP P w K mg base (yd P w) 14 a.gw.x a.gw.d ["self","deed"] (NT P w K a):=by
 refine T.gw.okE sC λX A outer s H vs Q E o h=>?_
 ·obtain⟨M,Z,c,p,d,O,rfl,t,hc,u,R,S,q,qr,qc⟩:=h;refine⟨_,(ag (aN (bP ((wC T W).mono (by decide)) o rfl T.eP.m T.eP.f.kp T.eP.b .nil iD (ac (Y 1) (ac (aI K rfl (Y 0)) (ac (aI K rfl (Y 0)) (ac (aI K rfl (Y 0)) ae)))))) (ag (bf 2 sC.nd (bw (Y 0) T.aF T.fJ.m ((wJ (P:=P) (w:=w) T).mono (by decide)) o T.fJ.b .nil iD (ac (Y 1) ae))) (ag (aN (gK K rfl PySem.F.plainAttrs_list PySem.F.slot_list_append PySem.F.type_list_append dG (aI K rfl (Y 0)) (ac (Y 1) ae))) (ah (ax (Y 2)))))),?_⟩
  have B:=t.g.house;refine U rfl (jS B T.aF T.cQ rfl rfl (jS B T.aF T.aX rfl rfl (jS B T.aF T.a9 rfl rfl ?_)));refine⟨p,M,Z,c,d,O,rfl,R,t.g,t.ok,S,λl H1 j=>?_,λl=>qc (Dd.clo_may l)⟩;refine pC (j _ _ B) rfl rfl (U rfl ⟨M,Z,c,p,d,O,rfl,t.same j,hc,u,ao.tseq j R,S.kp (.of j),λr us C k V nx st i o D v I=>?_,λha H' s'=>qr ha H' (j.trans s')⟩);have y:=i.g.house;rw[st.hh]at y;have n:=i.g.dees;have J:=t.ds;refine aq (jS y T.aF T.mG rfl rfl ⟨.inl ⟨rfl,_,aO.of n⟩,U rfl (rA n (by rw[v,j1];lia) ?_)⟩);have L:=i.g.deed (.ref p);have N:fH V C k (az V (k.G .dl) (.lst (k.ds++[.ref p]))) C {k with ds:=k.ds++[.ref p]}:=fH.put (r:=.dl) trivial rfl rfl rfl rfl λx hx=>.inl hx;refine U rfl (q l r us C {k with ds:=k.ds++[.ref p]} _ nx (((fH.of j).trans st).trans N) ⟨L,i.ok,i.tk,i.ow,by show(k.ds++[_]).length<=c+1;rw[iA,v];exact tx J⟩ (j.free o) ?_ λg e=>(I g e).imp λ_ q=>⟨q.1.kp (.lst n),q.2⟩);rw[am λz=>?_]
  ·exact D
  ·rw[z,st.dd,j _ _ t.g.dees]at o;cases o
end
def xW(K:RC)(H:Hp)(g:Str)(d:List V)(ls:List cD):Prop:=Paired (λ(u:V)(l:cD)=>∃b c,u=.ref b/\aT K H b [.str l.nm,c]/\vM K H c (eg l g)) d ls
theorem xW.kp{g:Str}(e:Kp H H'){b:List V}{ls:List cD}(h:xW K H g b ls):xW K H' g b ls:=Paired.mapP h λ_ _ q=>q.imp λ_ q=>q.imp λ_ q=>⟨q.1,e.tq q.2.1,q.2.2.kp e⟩
def xW.get{g:Str}{c:List V}{ls:List cD}(h:xW K H g c ls)(k:Nat)(u:V)(e:c[k]?=some u):∃l,ls[k]?=some l/\∃b d,u=.ref b/\aT K H b [.str l.nm,d]/\vM K H d (eg l g):=Paired.at_ h k u e
inductive IL(P:RH)(w:World)(K:RC)(a:jl)(vs:List V)(H:Hp)(Q:VK)(_E:XK):Prop|mk(M:bG)(Z:ZS)(c:Nat)(g:Str)(_:vs=[.ref (Z.G .hh),.str g])(_:cP P w K a H M Z c)(_:Bw g)(_:∀(r:Addr)(us:List V)H',ao H H'->H r=none->H' r=some (.lst us)->iH K H' us (uu M g)->Q (.ref r) H')
section
def u5(T:Txt K mg a):aP P w K mg base dI 4 a.eR.x a.eR.d ["self","guest"] (IL P w K a):=by
 refine T.eR.ok mn λbu A outer s H vs Q E hr h=>?_
 ·obtain⟨M,Z,c,g,rfl,hZ,hg,q⟩:=h;refine⟨_,(ag (aN (pc T.dq (gi T) hr (ac (Y 1) ae))) (ag (BT (P:=P) (w:=w) (HE 2 dy ["name","layer"] [] [3,4] (aj fj) (zc _ 3 4) (Ao (P:=P) (w:=w) (aI K rfl (Y 0))) (λcl C s₀ H₀ ex=>⟨(gf K rfl rfl (bo (nz dy ["name","layer"] 3) (bo (nz dy ["name","layer"] 4) gc))),bY,(bF (ac (Y 3) (ac (uR (cj hr) (aI K rfl (Y 4)) (Y 1) ⟨rfl,rfl,rfl,rfl⟩) ae)))⟩) mn.nd)) (ah (ax (wb dy ["name","seat"] [] [3,4] (aj fj) (zc _ 3 4) (cK K rfl (Y 2)) (λcl C s₀ H₀ ex=>⟨(gf K rfl rfl (bo (nz dy ["name","seat"] 3) (bo (nz dy ["name","seat"] 4) gc))),(t6 (aC Dh (Y 4) lM (aE _))),(av (uU K rfl) (bF (ac (Y 3) ae)) (Y 4))⟩)))))),?_⟩
  have bz:=hZ.ok.l4;refine U rfl ⟨g,rfl,hg,λH1 s1=>?_⟩;have J:=hZ.same s1;have ap:=J.g.lays;refine jS J.g.house T.aF T.aX rfl rfl ⟨Z.G .ln,U rfl ⟨ap,λep=>λD hD=>?_⟩⟩;have nd:Z.G .ln≠D:=λz=>by rw[<-z,O]at hD;cases hD
  have as:H1 D=none:=by rw[am (o_ nd)]at hD;exact hD
  refine zr (n:=M.las.length) (λk f H2=>(∀b o,H1 b=some o->b≠Z.G .ln->H2 b=some o)/\H2 (Z.G .ln)=some (dE P w (Z.G .ln) (jT (M.las.map cD.nm) λi=>.ref (Z.G (.lo i))) ep)/\H2 D=some (.lst f)/\xW K H2 g f (M.las.take k)) ⟨λb o e n=>by rw[am (aD e as),am n];exact e,by rw[am nd,O],O,.nil⟩ (λk f H2 W h=>⟨h.2.1,by rw[jc,c_];exact W⟩) ?_ ?_
  ·rintro k f L x S W⟨f4,t,X,I⟩⟨T1,kk,vv,bb,rfl,rfl,a2⟩;have V:=hY W;rw[yE,ig,V]at a2;obtain⟨rfl,rfl⟩:=QU (ji a2);have s5:=ai (o:=.tup [kV (.inr (M.las[k]).nm),.ref (Z.G (.lo k))]) (ao.refl L) bb;have e5:az L T1 (.tup [kV (.inr (M.las[k]).nm),.ref (Z.G (.lo k))]) T1=some (.tup [.str (M.las[k]).nm,.ref (Z.G (.lo k))]):=O;generalize az L T1 (.tup [kV (.inr (M.las[k]).nm),.ref (Z.G (.lo k))])=S at s5 e5⊢;have aa:t4 P w K a H1 S M Z c:=⟨J,λb o e n=>s5 _ _ (f4 b o e n)⟩;refine⟨T1,U rfl ⟨aT.of e5,rfl,_,U rfl (aq ⟨_,U rfl (aq ⟨rfl,jm (bI ?_)⟩)⟩)⟩⟩;have bc:=aa.at_ (r:=.lo k) (by simp only[cont,V];rfl) (by simp);have a3:=aa.at_ (r:=.iu k) (by simp only[cont,V];rfl) (by simp);refine U rfl (jS bc T.cg T.bQ rfl rfl ⟨Z.G (.iu k),rfl,.inl ⟨_,.inl a3⟩,U rfl ⟨aW (Z.iv k) (.inr g),d0.k (k:=.inr g) a3,ls rfl,λT6 bd=>?_⟩⟩);have y:=ai (o:=.tup [.str (M.las[k]).nm,(aW (Z.iv k) (.inr g)).getD .non]) (ao.refl S) bd;have e6:az S T6 (.tup [.str (M.las[k]).nm,(aW (Z.iv k) (.inr g)).getD .non]) T6=some (.tup [.str (M.las[k]).nm,(aW (Z.iv k) (.inr g)).getD .non]):=O;show az S T6 (.tup [.str (M.las[k]).nm,(aW (Z.iv k) (.inr g)).getD .non]) D=some (.lst f)/\_;generalize az S T6 (.tup [.str (M.las[k]).nm,(aW (Z.iv k) (.inr g)).getD .non])=N at y e6⊢;have m:=y _ _ (s5 _ _ X);have kp:Kp N (az N D (.lst (f++[.ref T6]))):=.lst m;have a5:f.length=k:=by have:=Paired.length I;rw[no]at this;lia
   refine⟨m,by rw[j1];lia,lf W ⟨λb o e n=>by rw[am (aD e as)];exact y _ _ (s5 _ _ (f4 b o e n)),by rw[am nd];exact y _ _ (s5 _ _ t),O,?_⟩⟩;rw[cu V];have bi:=(J.g.seats k _ V).seat g;exact Paired.snoc (((I.kp (.of s5)).kp (.of y)).kp kp) ⟨T6,U rfl ⟨kp.tq (aT.of e6),((bi.kp aa.kp).kp (.of y)).kp kp⟩⟩
  ·rintro f L⟨f4,t,X,I⟩;rw[ku (f_ _)]at I;refine⟨⟨t,by rw[jc,c_];exact f_ _⟩,aq ⟨Z.G .ln,_,ep,t,?_⟩⟩;have sF:ao H1 (az L (Z.G .ln) (.dK (jT (M.las.map cD.nm) λi=>.ref (Z.G (.lo i))))):=λb o e=>by
    by_cases z:b=Z.G .ln
    ·rw[z,ap]at e;rw[z,O];exact e
    ·rw[am z];exact f4 b o e z
   have kp:Kp L (az L (Z.G .ln) (.dK (jT (M.las.map cD.nm) λi=>.ref (Z.G (.lo i))))):=⟨λu xs e=>by rw[am λz=>by rw[z,t]at e;cases e];exact e,λu o⟨o',e⟩=>⟨o',by rw[am λz=>by rw[z,t]at e;cases e];exact e⟩⟩;have ad:az L (Z.G .ln) (.dK (jT (M.las.map cD.nm) λi=>.ref (Z.G (.lo i)))) D=some (.lst f):=by rw[am (o_ nd)];exact X
   have al:=I.kp kp;generalize az L (Z.G .ln) (.dK (jT (M.las.map cD.nm) λi=>.ref (Z.G (.lo i))))=S at sF ad al⊢;have a5:f.length=M.las.length:=Paired.length al;refine U rfl ⟨D,rfl,⟨_,aO.of ad⟩,λD2 an=>?_⟩;refine jg (K:=K) (a:=D) (xs:=f) (λk j H'=>ao S H'/\H' D2=some (.lst j)/\iH K H' j ((M.las.take k).filterMap λl=>(eg l g).map λp=>(l.nm,p.1,p.2))) ⟨ai (ao.refl _) an,O,.nil⟩ (λk j H' _ h=>aO.of (h.1 _ _ ad)) ?_ ?_
   ·rintro k v j N hv⟨y,m,B⟩;have W:k<f.length:=(d_.mp hv).1;obtain⟨l,V,b,sv,rfl,hb,F⟩:=al.get k v hv;have a6:j.length<=4:=by have:=Paired.length B;have h2:=PU (λl=>(eg l g).map λp=>(l.nm,p.1,p.2)) (M.las.take k);rw[no]at h2;lia
    refine⟨b,U rfl ⟨ao.tseq y hb,rfl,_,U rfl (aq ⟨_,U rfl (aq ⟨rfl,?_⟩)⟩)⟩⟩;cases R:eg l g with|none=>rw[R]at F;have F:sv=.non:=F;subst F;refine U rfl ⟨rfl,U rfl (b0 (lf W ⟨y,m,?_⟩))⟩;rw[cu V,Es,z8,R];exact(rr _).symm▸B|some p=>rw[R]at F;obtain⟨s,rfl,hs⟩:=F;refine U rfl ⟨rfl,U rfl (bI (U rfl ⟨ls rfl,λT7 a7=>(U rfl ⟨T7,s,[.str l.nm],U rfl ⟨rfl,aT.of O,ao.tseq (ai y a7) hs,by simp,by rw[j1];simp,λz=>(nomatch z),λ_ T8 bt=>?_⟩⟩)⟩))⟩;have s9:=ai (o:=.tup ([.str l.nm]++[.str p.1,.str p.2])) (ai (o:=.tup [.str l.nm]) (ao.refl N) a7) bt;have e9:az (az N T7 (.tup [.str l.nm])) T8 (.tup ([.str l.nm]++[.str p.1,.str p.2])) T8=some (.tup [.str l.nm,.str p.1,.str p.2]):=O;show az (az N T7 (.tup [.str l.nm])) T8 (.tup ([.str l.nm]++[.str p.1,.str p.2])) D2=some (.lst j)/\_;generalize az (az N T7 (.tup [.str l.nm])) T8 (.tup ([.str l.nm]++[.str p.1,.str p.2]))=H9 at s9 e9⊢;have a8:=s9 _ _ m;have ba:Kp H9 (az H9 D2 (.lst (j++[.ref T8]))):=.lst a8;refine⟨a8,by rw[j1];exact rV a6 (lh rfl),lf W ⟨a0 (y.trans s9) an,O,?_⟩⟩;rw[cu V,Es,z8,R];exact Paired.snoc ((B.kp (.of s9)).kp ba) ⟨T8,rfl,ba.tq (aT.of e9)⟩
   ·rintro j N⟨y,m,B⟩;rw[a5,ku (f_ _)]at B;exact q D2 j N ((s1.trans sF).trans y) (s1.free (sF.free an)) m B
end
def nu.luq{M:bG}{c i j:Nat}{l d:cD}(h:nu M c)(f:M.las[i]?=some l)(b:M.las[j]?=some d)(e:l.nm=d.nm):i=j:=yK h.ln f b e
def nu.tuq{M:bG}{c i j:Nat}{t d:et}(h:nu M c)(f:M.trs[i]?=some t)(b:M.trs[j]?=some d)(e:t.nm=d.nm):i=j:=(Px (by rw[c_];exact(d_.mp f).1) h.tn).mp (by rw[ig,ig,f,b];exact tl some e)
def eM{ins:List (Str×Str×Str)}{gs:RI}{x:Str×Str×Str}(h:x∈c8 ins gs):x∈ins:=(vr.mp h).1
def kd.of{M d:bG}(h:kd M)(j:∀b∈d.las,b.ins=[]\/∃l∈M.las,b.nm=l.nm/\∀x∈b.ins,x∈l.ins)(n:∀t∈M.trs,∃c∈d.trs,c.nm=t.nm/\c.home=t.home):kd d:=λb f x g=>by
 rcases j b f with e|⟨l,m,k,o⟩
 ·rw[e]at g;cases g
 ·obtain⟨t,mt,p,q⟩:=h l m x (o x g);obtain⟨c,i,r,s⟩:=n t mt;exact⟨c,i,r.trans p,by rw[s,q,k]⟩
def ip{M:bG}{i:Nat}{l b:cD}(c:M.las[i]?=some l)(e:b.nm=l.nm)(d:∀x∈b.ins,x∈l.ins):∀y∈M.las.set i b,y.ins=[]\/∃l∈M.las,y.nm=l.nm/\∀x∈y.ins,x∈l.ins:=λy f=>by
 rcases v1 f with z|z
 ·exact .inr ⟨y,z,rfl,λ_ h=>h⟩
 ·rw[z];exact .inr ⟨l,h_ c,e,d⟩
def ym{M:bG}{j:Nat}{t t':et}(c:M.trs[j]?=some t)(e:t'.nm=t.nm)(d:t'.home=t.home):∀u∈M.trs,∃v∈M.trs.set j t',v.nm=u.nm/\v.home=u.home:=λu f=>by
 obtain⟨k,b⟩:=k_.mp f
 by_cases z:j=k
 ·subst z;rw[c]at b;obtain rfl:=ji b;exact⟨t',h_ (A_ (d_.mp c).1),e,d⟩
 ·exact⟨u,h_ (i:=k) (by rw[oD z];exact b),rfl,rfl⟩
def kd.next{M q:bG}{d:Dd}(h:kd M)(n:eI M d q)(s:∀g,d=.visit g->kd q):kd q:=by have e:∀t∈M.trs,∃m∈M.trs,m.nm=t.nm/\m.home=t.home:=λt r=>⟨t,r,rfl,rfl⟩;cases n with
 |layer=>
  refine h.of (λo c=>?_) e;rcases Rz.mp c with z|z
  ·exact .inr ⟨o,z,rfl,λ_ h=>h⟩
  ·rw[List.mem_singleton.mp z];exact .inl rfl|trial=>exact h.of (λo c=>.inr ⟨o,c,rfl,λ_ h=>h⟩) λt r=>⟨t,tA _ r,rfl,rfl⟩|share f=>exact h.of (ip f rfl λ_ k=>eM k) e|deal f=>exact h.of (ip f rfl λ_ k=>eM k) e|hold f=>exact h.of (ip f rfl λ_ k=>k) e|@pause t b j p=>exact h.of (λo c=>.inr ⟨o,c,rfl,λ_ h=>h⟩) (ym (t':={t with pau:=b}) p rfl rfl)|@close t i j l p f hh=>exact h.of (ip f rfl λ_ k=>eM k) (ym (t':={t with clo:=true}) p rfl rfl)|@bar g t i j l p f hh=>exact h.of (ip f rfl λ_ k=>eM k) (ym (t':={t with bar:=fE t.bar g}) p rfl rfl)|visit _=>exact s _ rfl
def eI.cam{M b:bG}{d:Dd}(n:eI M d b)(h:∀g,d≠.visit g):b.came=M.came:=by cases n<;>first|rfl|exact absurd rfl (h _)
def mH{M:bG}{j:Nat}{t t':et}(b:M.trs[j]?=some t)(e:t'.nm=t.nm)(c:t'.shuts=t.shuts):∀u∈M.trs.set j t',∃v∈M.trs,u.nm=v.nm/\u.shuts=v.shuts:=λu d=>by
 rcases v1 d with z|z
 ·exact⟨u,z,rfl,rfl⟩
 ·rw[z];exact⟨t,h_ b,e,c⟩
def eI.shs{M f:bG}{d:Dd}(n:eI M d f):∀u∈f.trs,d=.trial u\/∃v∈M.trs,u.nm=v.nm/\u.shuts=v.shuts:=by
 cases n with|trial=>
  intro u c;rcases Rz.mp c with z|z
  ·exact .inr ⟨u,z,rfl,rfl⟩
  ·rw[List.mem_singleton.mp z];exact .inl rfl|@pause t b j e=>exactλu c=>.inr (mH (t':={t with pau:=b}) e rfl rfl u c)|@close t i j l e k hh=>exactλu c=>.inr (mH (t':={t with clo:=true}) e rfl rfl u c)|@bar g t i j l e k hh=>exactλu c=>.inr (mH (t':={t with bar:=fE t.bar g}) e rfl rfl u c)|visit v=>exactλu c=>.inr ⟨u,v.trs▸c,rfl,rfl⟩|layer=>exactλu c=>.inr ⟨u,c,rfl,rfl⟩|share=>exactλu c=>.inr ⟨u,c,rfl,rfl⟩|deal=>exactλu c=>.inr ⟨u,c,rfl,rfl⟩|hold=>exactλu c=>.inr ⟨u,c,rfl,rfl⟩
def FY:List Str:=["ann","ann7","7ann","an","nan","ana","anan","b","bob12","bob1","21bob","annbob"]
def C4:List Str:=["","ann7","0","guestofthishouse99"]
def zX(k:Nat):Nat:=if k<26 then 97+k else 22+k
def Mi(z:Str)(i:Int)(c:Nat):Str:=Txt.slice z none (some i)++(⟨#[c]⟩:Str)++Txt.slice z (some i) none
def OU(x:Str):Bool:=decide (1<=x.length)&&decide (x.length<=24)&&x.cps.toList.all λc=>decide (c∈kz.cps.toList)
def KS(h:OU x=true):Bw x:=by unfold OU at h;rw[n7,n7]at h;exact⟨lh h.1.1,lh h.1.2,λc hc=>lh (List.all_eq_true.mp h.2 c hc)⟩
def FX:∀z∈FY,OU z=true:=by decide+kernel
def JH:∀z∈C4,∀i∈List.range 19,∀c∈List.range 36,OU (Mi z (i:Int) (zX c))=true:=by decide+kernel
def D6:∀z∈C4,z.length<=18:=by decide+kernel
def LR:∀c∈List.range 36,vJ ("abcdefghijklmnopqrstuvwxyz0123456789":Str).cps.toList (c:Int)=some (zX c):=by decide+kernel
def iN{zs:RI}{i:Int}(h0:0<=i)(h1:i<(zs.length:Int)):∃z∈zs,vJ (zs.map V.str) i=some (V.str z):=by obtain⟨v,b,hm⟩:=Br (xs:=zs.map V.str) h0 (by rw[c_];exact h1);obtain⟨z,c,rfl⟩:=mo.mp hm;exact⟨z,c,b⟩
def M0(k N:Int)(g:Str):Prop:=(N/80%2=1/\vJ (FY.map V.str) ((k+N/160)%12)=some (.str g))\/(¬N/80%2=1/\∃z,vJ (C4.map V.str) (N%4)=some (.str z)/\g=Mi z (N/4%((z.length:Int)+1)) (zX ((k+N/160)%36).toNat))
def M0.one{k N:Int}{g c:Str}(h:M0 k N g)(h':M0 k N c):g=c:=by
 rcases h with⟨e,h⟩|⟨e,z,h,r⟩<;>rcases h' with⟨b,h'⟩|⟨b,f,h',d⟩
 ·rw[h]at h';exact V.str.inj (ji h')
 ·exact absurd e b
 ·exact absurd b e
 ·rw[h]at h';obtain rfl:=V.str.inj (ji h');rw[r,d]
inductive FJ(vs:List V)(H:Hp)(Q:VK)(_E:XK):Prop|mk(k N:Int)(_:vs=[.int k,.int N])(_:∀(g:Str)H',ao H H'->Bw g->M0 k N g->Q (.str g) H')
def Fl(h:N b H):(oW.mk N R B C).nx b H:=h
def rP{c:TT}{t u:TS}{D:oW}{b:St}(h1:u D b H)(h2:∀N:St->Hp->Prop,N b H->IC c t zS {D with nx:=N} b H):Fw (IC c t zS) u D b H:=h2 (u D) h1
def OS:List Str:=["age","size","old"]
inductive IN(K:RC)(h:Nat)(vs:List V)(H:Hp)(Q:VK)(_E:XK):Prop|mk(n i:Int)(_:vs=[.int n,.int i])(_:1<=i)(_:i<=(h:Int))(_:∀(r:Ru)(rv:V)H',ao H H'->eY K H' r rv->kA OS r->r.hgt<=h->r.cnt<2^h->Q rv H')
section
def xu(T:Txt K mg a):aP P w K mg base dI 1 a.oU.x a.oU.d ["_law_k","_law_number"] FJ:=by
 refine T.oU.ok kM λt A outer s H F Q E G h=>?_
 ·obtain⟨k,N,rfl,q⟩:=h;refine⟨_,(ag (aJ (aC aS (av aR (av bB (Y 1) af) af) af (aE _)) (ag (bf 2 kM.nd (bg (ac aB (ac aB (ac aB (ac aB (ac aB (ac aB (ac aB (ac aB (ac aB (ac aB (ac aB (ac aB ae)))))))))))))) (ah (ax (iF K (Y 2) (av aR (av bS (Y 0) (av bB (Y 1) af)) af))))) aA) (ag (bf 3 kM.nd (iF K (bg (ac aB (ac aB (ac aB (ac aB ae))))) (av aR (Y 1) af))) (ag (bf 4 kM.nd (av aR (av bB (Y 1) af) (av bS (au (aG K rfl) (by rfl) T.bp L2.aH (ac (Y 3) ae)) af))) (ag (bf 5 kM.nd (av aR (av bS (Y 0) (av bB (Y 1) af)) af)) (ah (ax (av jC (av jC (gh yk (Y 3) ja (i9 (Y 4))) (Aq Cw aB (Y 5) (λ_ _=>rfl))) (gh yk (Y 3) (i9 (Y 4)) ja)))))))),?_⟩
  have b1:=bD (k+N/160) (show(0:Int)<12 by decide);have b2:=bD (k+N/160) (show(0:Int)<36 by decide);have b3:=bD N (show(0:Int)<4 by decide)
  walk_at "a"
  refine kW (λi=>?_) (λi=>?_)
  ·refine⟨ls rfl,λl j=>?_⟩
   walk_at "a"
   obtain⟨z,g,c⟩:=iN (zs:=FY) b1.1 b1.2;exact⟨l,_,_,U rfl ⟨rfl,aO.of O,c,q z _ (ai (ao.refl H) j) (KS (FX z g)) (.inl ⟨i,c⟩)⟩⟩
  ·refine⟨ls rfl,λl j=>?_⟩;obtain⟨z,g,c⟩:=iN (zs:=C4) b3.1 b3.2;have v:=D6 z g;have r:=ai (o:=.lst [V.str "",V.str "ann7",V.str "0",V.str "guestofthishouse99"]) (ao.refl H) j;have e:az H l (.lst [V.str "",V.str "ann7",V.str "0",V.str "guestofthishouse99"]) l=some (.lst [V.str "",V.str "ann7",V.str "0",V.str "guestofthishouse99"]):=O;generalize az H l (.lst [V.str "",V.str "ann7",V.str "0",V.str "guestofthishouse99"])=I at r e⊢
   walk_at "a"
   refine⟨l,_,_,U rfl ⟨rfl,aO.of e,c,aq ?_⟩⟩
   walk_at "a"
   refine⟨_,z.length,rfl,⟨dn (by lia),rfl⟩,_,U rfl ⟨rfl,r2 ⟨(by show(0:Int)<_;exact sD.mpr (rd _)),aq ?_⟩⟩⟩;have y:=bD (N/4) (show(0:Int)<(z.length:Int)+1 by exact sD.mpr (rd _));have B:=Txt.slice_le z none (some (N/4%((z.length:Int)+1)));have C:=Txt.slice_le z (some (N/4%((z.length:Int)+1))) none;have hok:=JH z g (N/4%((z.length:Int)+1)).toNat (by rw[to];lia) ((k+N/160)%36).toNat (by rw[to];lia);have f:=LR ((k+N/160)%36).toNat (by rw[to];lia);rw[show(((N/4%((z.length:Int)+1)).toNat:Nat):Int)=N/4%((z.length:Int)+1)by lia]at hok;rw[show((((k+N/160)%36).toNat:Nat):Int)=(k+N/160)%36 by lia]at f;have m:M0 k N (Mi z (N/4%((z.length:Int)+1)) (zX ((k+N/160)%36).toNat)):=.inr ⟨i,z,c,rfl⟩;generalize zX ((k+N/160)%36).toNat=n at*;have p:∀a b:Str,(a++b).length=a.length+b.length:=λa b=>by show(a.cps++b.cps).size=a.cps.size+b.cps.size;exact Array.size_append
   have D:(⟨#[n]⟩:Str).length=1:=rfl
   walk_at "a"
   refine⟨dn (by lia),?_⟩
   walk_at "a"
   exact⟨"abcdefghijklmnopqrstuvwxyz0123456789",_,n,rfl,rfl,dn (by decide+kernel),f,_,(⟨#[n]⟩:Str),rfl,rfl,dn (by omega),U rfl (U rfl ⟨N/4%((z.length:Int)+1),rfl,z,rfl,dn (by omega),_,U rfl ⟨rfl,dn (by rw[p];omega),q _ _ r (KS hok) m⟩⟩)⟩
theorem AD(T:Txt K mg a):∀h:Nat,aP P w K mg base dI (h+1) a.eJ.x a.eJ.d ["_law_number","_law_high"] (IN K h)
 |0=>by
  refine T.eJ.f.ok ml (λS H Q E h=>?_) (λW A outer s H S Q E e h=>?_)
  ·obtain⟨n,i,rfl,_⟩:=h;rfl
  ·obtain⟨n,i,rfl,h1,h2,_⟩:=h;lia|hh+1=>by
  have G:=AD T hh;refine T.eJ.f.ok ml (λS H Q E h=>?_) (λW A outer s H S Q E e h=>?_)
  ·obtain⟨n,i,rfl,_⟩:=h;rfl
  ·obtain⟨n,i,rfl,h1,h2,q⟩:=h;refine⟨_,(ag (bf 2 ml.nd (av aR (Y 0) af)) (ag (bf 3 ml.nd (av bB (Y 0) af)) (ag (bf 4 ml.nd (iF K (bg (ac aB (ac aB (ac aB ae)))) (av aR (Y 3) af))) (ag (aJ (aC aS (Y 2) af (aE _)) (ah (ax (bF (ac aB (ac (Y 4) ae))))) aA) (ag (aJ (PW.pt (fb (aC aS (Y 2) af (aE _)) (dD (aC aS (Y 2) af (aE _))))) (ah (ax (bF (ac aB (ac (Y 4) (ac (av fu (av aR (av bB (Y 3) af) af) af) ae)))))) aA) (ag (aJ (PW.pt (qN (aC sE (Y 1) af (aE _)) (mV (aC aS (Y 2) af (aE _))))) (ah (ax (bF (ac aB (ac (bP G e rfl T.eJ.m T.eJ.f.kp T.eJ.b .nil bx (ac (Y 3) (ac (av fu (Y 1) af) ae))) ae))))) aA) (ag (aJ (PW.pt (qN (aC sE (Y 1) af (aE _)) (mV (aC aS (Y 2) af (aE _))))) (ah (ax (bF (ac aB (ac (bP G e rfl T.eJ.m T.eJ.f.kp T.eJ.b .nil bx (ac (Y 3) (ac (av fu (Y 1) af) ae))) (ac (bP G e rfl T.eJ.m T.eJ.f.kp T.eJ.b .nil bx (ac (av bB (Y 3) af) (ac (av fu (Y 1) af) ae))) ae)))))) aA) (ag (aJ (PW.pt (qN (aC sE (Y 1) af (aE _)) (mV (aC aS (Y 2) af (aE _))))) (ah (ax (bF (ac aB (ac (bP G e rfl T.eJ.m T.eJ.f.kp T.eJ.b .nil bx (ac (Y 3) (ac (av fu (Y 1) af) ae))) (ac (bP G e rfl T.eJ.m T.eJ.f.kp T.eJ.b .nil bx (ac (av bB (Y 3) af) (ac (av fu (Y 1) af) ae))) ae)))))) aA) (ah (ax (bF (ac aB ae)))))))))))),?_⟩
   have p2:2<=2^(hh+1):=by rw[QF];have:=Nat.two_pow_pos hh;lia
   walk_at "a"
   refine⟨ls rfl,λl hl=>?_⟩;have b3:=bD (n/10) (show(0:Int)<3 by decide);obtain⟨z,hz,ha⟩:=iN (zs:=OS) b3.1 b3.2;have v:=ai (o:=.lst [V.str "age",V.str "size",V.str "old"]) (ao.refl H) hl;have y:az H l (.lst [V.str "age",V.str "size",V.str "old"]) l=some (.lst [V.str "age",V.str "size",V.str "old"]):=O;generalize az H l (.lst [V.str "age",V.str "size",V.str "old"])=H0 at v y⊢
   walk_at "a"
   refine⟨l,_,_,U rfl ⟨rfl,aO.of y,ha,aq ?_⟩⟩;clear y ha b3;refine Fl (rP ?_ (λN j=>?_))
   rotate_left
   ·walk_at "a"
    refine kW (λe1=>?_) (λe1=>j);exact U rfl ⟨ls rfl,λt c=>q (.has z) _ _ (ai v c) (.has (aT.of O)) (.has hz) (by show 1<=hh+1;exact rd _) p2⟩
   refine rP ?_ (λN j=>?_)
   rotate_left
   ·have b9:=bD (n/10/3) (show(0:Int)<9 by decide);have ad:=qF;refine U rfl ⟨rfl,U rfl (kW (λ_=>bI ?_) (λ_=>(U rfl ⟨rfl,U rfl (kW (λ_=>?_) (λ_=>j))⟩)))⟩
    all_goals
     walk_at "a"
     exact⟨ls rfl,λt c=>q (.least z _) _ _ (ai v c) (.least (aT.of O)) (.least hz (by lia) (by lia)) (by show 1<=hh+1;lia) p2⟩
   have X:∀m:Nat,m<2^hh->m+1<2^(hh+1):=λm hm=>by rw[QF];lia
   have u:∀m k:Nat,m<2^hh->k<2^hh->m+k+1<2^(hh+1):=λm k hm hk=>by rw[QF];lia
   refine rP ?_ (λN j=>?_)
   rotate_left
   ·refine U rfl (r2 (U rfl (nB (λg=>?_) (λ_=>b0 j))));refine U rfl ⟨rfl,U rfl (kW (λ_=>?_) (λ_=>j))⟩;refine U rfl (U rfl (r2 ⟨n/10,i-1,rfl,by lia,by lia,λr R H1 I e J h3 h4=>⟨ls rfl,λt c=>?_⟩⟩));exact q (.not r) _ _ (ai (v.trans I) c) (.not (aT.of O) (e.kp (.of (ai (ao.refl _) c)))) (.not J) (by show r.hgt+1<=hh+1;exact tx h3) (X _ h4)
   refine rP ?_ (λN j=>?_)
   rotate_left
   ·refine U rfl (r2 (U rfl (nB (λg=>?_) (λ_=>b0 j))));refine U rfl ⟨rfl,U rfl (kW (λ_=>?_) (λ_=>j))⟩;refine U rfl (U rfl (r2 ⟨n/10,i-1,rfl,by lia,by lia,λr R H1 I e J h3 h4=>?_⟩));refine U rfl (r2 ⟨⟨by decide,by decide⟩,U rfl (r2 ⟨n/10/40,i-1,rfl,by lia,by lia,λp B Z L C D aa F=>⟨ls rfl,λt c=>?_⟩⟩)⟩);have M:=ai (o:=.tup [.str "both",R,B]) (ao.refl Z) c;exact q (.both r p) _ _ (ai ((v.trans I).trans L) c) (.both (aT.of O) ((e.kp (.of L)).kp (.of M)) (C.kp (.of M))) (.both J D) (by show max r.hgt p.hgt+1<=hh+1;lia) (by rw[show(Ru.both r p).cnt=r.cnt+p.cnt+1 from tl (·+1) iA];exact u _ _ h4 F)
   refine rP ?_ (λN j=>?_)
   rotate_left
   ·refine U rfl (r2 (U rfl (nB (λg=>?_) (λ_=>b0 j))));refine U rfl ⟨rfl,U rfl (kW (λ_=>?_) (λ_=>j))⟩;refine U rfl (U rfl (r2 ⟨n/10,i-1,rfl,by lia,by lia,λr R H1 I e J h3 h4=>?_⟩));refine U rfl (r2 ⟨⟨by decide,by decide⟩,U rfl (r2 ⟨n/10/40,i-1,rfl,by lia,by lia,λp B Z L C D aa F=>⟨ls rfl,λt c=>?_⟩⟩)⟩);have M:=ai (o:=.tup [.str "either",R,B]) (ao.refl Z) c;exact q (.either r p) _ _ (ai ((v.trans I).trans L) c) (.either (aT.of O) ((e.kp (.of L)).kp (.of M)) (C.kp (.of M))) (.either J D) (by show max r.hgt p.hgt+1<=hh+1;lia) (by rw[show(Ru.either r p).cnt=r.cnt+p.cnt+1 from tl (·+1) iA];exact u _ _ h4 F)
   exact⟨ls rfl,λt c=>q .any _ _ (ai v c) (.any (aT.of O)) .any (by show 1<=hh+1;exact rd _) p2⟩
end
def B5(m:Int)(j:Nat):Str:=OS.getD (((j:Int)+m)%3).toNat "age"
def MC:List Str:=["marka","markb","markc","markd","marke"]
def JC(m:Int):B5 m=B5 (m%3):=by
 funext j
 unfold B5;rw[Int.add_emod,Int.add_emod (j:Int) (m%3),Int.emod_emod]
def GJ(m:Int):(MC++(List.range 3).map (B5 m)).Nodup/\∀z∈MC++(List.range 3).map (B5 m),M8 z=true:=by rw[JC];have b:=bD m (show(0:Int)<3 by decide);rcases(by lia:m%3=0\/m%3=1\/m%3=2)with e|e|e<;>rw[e]<;>decide+kernel
def Md{m:Int}{j:Nat}:vJ [V.str "age",V.str "size",V.str "old"] ((0+(j:Int)+m)%3)=some (V.str (B5 m j)):=by rw[Int.zero_add];have b:=bD ((j:Int)+m) (show(0:Int)<3 by decide);unfold B5;rcases(by lia:((j:Int)+m)%3=0\/((j:Int)+m)%3=1\/((j:Int)+m)%3=2)with e|e|e<;>rw[e]<;>rfl
def Nm(K:RC)(H:Hp)(v:V)(m:Str×Int):Prop:=∃b,v=.ref b/\aT K H b [.str m.1,.int m.2]
def sK(e:Kp H H')(h:Paired (Nm K H) c d):Paired (Nm K H') c d:=Paired.mapP h λv m⟨b,h1,h2⟩=>⟨b,h1,e.tq h2⟩
def Od{a:Addr}{c:List V}{d:List (Str×Int)}(h:Paired (Nm K H) c d)(e:aT K H a c):tZ K H d (.ref a):=⟨a,c,rfl,e,Paired.length h,λi m hm=>by obtain⟨v,h1,b,rfl,h2⟩:=qP h i m hm;exact⟨b,h1,h2⟩⟩
def mL{ns:RN}{i:Int}(h0:0<=i)(h1:i<(ns.length:Int)):∃z∈ns,vJ (ns.map V.int) i=some (V.int z):=by obtain⟨v,b,hm⟩:=Br (xs:=ns.map V.int) h0 (by rw[c_];exact h1);obtain⟨z,c,rfl⟩:=mo.mp hm;exact⟨z,c,b⟩
def Dv:List (Str×Int):=[("marka",-2),("markb",-1),("markc",0),("markd",1),("marke",2)]
def Hm:∀j∈List.range 5,vJ ("abcde":Str).cps.toList (0+(j:Int))=some (97+j)/\Dv[j]?=some (("mark":Str)++(⟨#[97+j]⟩:Str),0+(j:Int)-2):=by decide+kernel
inductive FF(K:RC)(vs:List V)(H:Hp)(Q:VK)(_E:XK):Prop|mk(n:Int)(_:vs=[.int n])(_:∀(t:Addr)(ms:List (Str×Int))H',ao H H'->tZ K H' ms (.ref t)->(∀m∈ms,Wd m.1/\-df<=m.2/\m.2<=df)->(ms.map Prod.fst).Nodup->ms.length<=8->Q (.ref t) H')
section
def xt(T:Txt K mg a):aP P w K mg base dI 2 a.oT.x a.oT.d ["_law_number"] (FF K):=by
 refine T.oT.ok kL λbd A outer s H r Q E hr h=>?_
 ·obtain⟨n,rfl,q⟩:=h;refine⟨_,(ag (bf 1 kL.nd (bg ae)) (ag (dw op rfl (c9 rfl T.eD (ac af ae)) (pF 2 kL.nd) (ah (aJ (aC aS (av aR (av bB (Y 0) (iF K (bg (ac af (ac af (ac af ae)))) (Y 2))) af) af (aE _)) (ag (bf 3 kL.nd (iF K (bg (ac aB (ac aB (ac aB ae)))) (av aR (av bS (Y 2) (av bB (Y 0) af)) af))) (ah (aN (gK K rfl PySem.F.plainAttrs_list PySem.F.slot_list_append PySem.F.type_list_append dG (Y 1) (ac (bF (ac (Y 3) (ac (av fu (av aR (av bB (Y 0) (iF K (bg (ac af (ac af (ac af ae)))) (Y 2))) af) af) ae))) ae))))) aA))) (ag (aJ (aC aS (av aR (av bB (Y 0) af) af) af (aE _)) (ah (bf 1 kL.nd (av BY (wb vN [] [2] [2] (aj pA) (ck 2) (c9 rfl T.eD (ac af ae)) (λcl C s₀ H₀ ex=>⟨(nz vN [] 2),bY,(bF (ac (av jC aB (Aq Cw aB (Y 2) (λ_ _=>rfl))) (ac (av fu (Y 2) af) ae)))⟩)) (Y 1)))) aA) (ah (ax (db (fS K rfl) (by rfl) T.dO L2.bT (ac (Y 1) ae))))))),?_⟩
  refine⟨ls rfl,λl hl=>?_⟩;have s0:=ai (o:=.lst []) (ao.refl H) hl;refine aq ⟨3,rfl,by exact j2 _,by exact j2 _,?_⟩;refine gO (lo:=0) (n:=3) (λi S H'=>ao H H'/\(Fk λ(g:List (Str×Int))(r:List V)=>Pw (H' l=some (.lst r)) (Paired (Nm K H') r g) ((g.map (·.1)).Sublist ((List.range i).map (B5 (n/8)))) ((∀m∈g,-100<=m.2/\m.2<=100)) (Fk λW X=>S=[some (.int n),some (.ref l),W,X]))) ⟨s0,[],[],O,.nil,List.nil_sublist _,(λm hm=>nomatch hm),_,_,rfl⟩ ?_ ?_
  ·rintro i S Z hi⟨s1,g,r,hL,G,b,hb,W,X,rfl⟩;refine aq ?_
   walk_at "a"
   refine⟨ls rfl,λl1 as=>?_⟩;have f:=ai (o:=.lst [V.int 1,V.int 2,V.int 4]) (ao.refl Z) as;have u:az Z l1 (.lst [V.int 1,V.int 2,V.int 4]) l1=some (.lst [V.int 1,V.int 2,V.int 4]):=O;generalize az Z l1 (.lst [V.int 1,V.int 2,V.int 4])=I at f u⊢;obtain⟨d,hd,ha⟩:=mL (ns:=[1,2,4]) (i:=0+(i:Int)) (by exact j2 _) (by show _<(3:Int);lia);have bi:d=1\/d=2\/d=4:=by simpa using hd
   refine U rfl ⟨l1,_,_,U rfl ⟨rfl,aO.of u,ha,_,U rfl ⟨rfl,⟨by lia,by lia⟩,_,U rfl ⟨rfl,(show(0:Int)<2 by decide),rfl,U rfl ?_⟩⟩⟩⟩;refine kW (λ_=>?_) (λ_=>?_)
   ·refine⟨ls rfl,λl2 a2=>?_⟩;have J:=ai (o:=.lst [V.str "age",V.str "size",V.str "old"]) (ao.refl I) a2;have v:az I l2 (.lst [V.str "age",V.str "size",V.str "old"]) l2=some (.lst [V.str "age",V.str "size",V.str "old"]):=O;generalize az I l2 (.lst [V.str "age",V.str "size",V.str "old"])=H3 at J v⊢
    walk_at "a"
    refine⟨l2,_,_,U rfl ⟨rfl,aO.of v,Md,aq ?_⟩⟩;have a3:=J _ _ (f _ _ hL);refine U rfl ⟨.inl ⟨rfl,_,aO.of a3⟩,U rfl (U rfl ⟨ls rfl,λl3 a5=>?_⟩)⟩;have s4:=ai (o:=.lst [V.int 24,V.int 240,V.int 2400]) (ao.refl H3) a5;have y:az H3 l3 (.lst [V.int 24,V.int 240,V.int 2400]) l3=some (.lst [V.int 24,V.int 240,V.int 2400]):=O;generalize az H3 l3 (.lst [V.int 24,V.int 240,V.int 2400])=H4 at s4 y⊢;obtain⟨k,a6,a7⟩:=mL (ns:=[24,240,2400]) (i:=0+(i:Int)) (by exact j2 _) (by show _<(3:Int);lia);have bc:k=24\/k=240\/k=2400:=by simpa using a6
    have bt:=bD (n/k) (show(0:Int)<10 by decide);refine U rfl ⟨l3,_,_,U rfl ⟨rfl,aO.of y,a7,_,U rfl ⟨rfl,⟨by lia,by lia⟩,_,U rfl ⟨rfl,(show(0:Int)<10 by decide),_,U rfl ⟨rfl,ls rfl,λt ht=>?_⟩⟩⟩⟩⟩;have s5:=ai (o:=.tup [.str (B5 (n/8) i),.int (n/k%10-5)]) (ao.refl H4) ht;have aa:az H4 t (.tup [.str (B5 (n/8) i),.int (n/k%10-5)]) t=some (.tup [.str (B5 (n/8) i),.int (n/k%10-5)]):=O;have s6:ao Z (az H4 t (.tup [.str (B5 (n/8) i),.int (n/k%10-5)])):=((f.trans J).trans s4).trans s5;generalize az H4 t (.tup [.str (B5 (n/8) i),.int (n/k%10-5)])=H5 at s6 aa⊢;have ad:=s6 _ _ hL;have a8:=Paired.length G;have L:=b.length_le;rw[c_,c_,rl]at L;refine rA ad (by rw[j1];lia) ⟨a0 (s1.trans s6) hl,g++[(B5 (n/8) i,n/k%10-5)],_,O,?_,?_,λm hm=>?_,_,_,rfl⟩
    ·exact sK (.lst ad) (Paired.snoc (sK (.of s6) G) ⟨t,rfl,aT.of aa⟩)
    ·rw[il,QM,il];exact b.append (Ra _)
    ·rcases Rz.mp hm with z|z
     ·exact hb m z
     ·rw[List.mem_singleton.mp z];show-100<=n/k%10-5/\n/k%10-5<=100;lia
   ·refine⟨s1.trans f,g,r,f _ _ hL,sK (.of f) G,?_,hb,_,_,rfl⟩;rw[QM,il];exact b.trans (List.sublist_append_left _ _)
  ·rintro S Z⟨s1,g,r,hL,G,b,hb,W,X,rfl⟩
   walk_at "a"
   refine K3 (λS H'=>ao H H'/\(OH λ(l':Addr)(g:List (Str×Int))(r:List V)=>Pw (H' l'=some (.lst r)) (Paired (Nm K H') r g) ((g.map (·.1)).Sublist (MC++(List.range 3).map (B5 (n/8)))) ((∀m∈g,-100<=m.2/\m.2<=100)) (Fk λW X=>S=[some (.int n),some (.ref l'),W,X]))) ?A (λN hJ=>?B)
   case B=>
    refine kW (λ_=>?_) (λ_=>hJ _ _ ⟨s1,l,g,r,hL,G,b.trans (List.sublist_append_right _ _),hb,_,_,rfl⟩);refine⟨5,rfl,by exact j2 _,by exact j2 _,λD hD=>?_⟩;refine fC (K:=K) (lo:=0) (n:=5) (λj p H'=>ao Z H'/\H' D=some (.lst p)/\Paired (Nm K H') p (Dv.take j)) ⟨ai (ao.refl _) hD,O,.nil⟩ ?_ ?_
    ·rintro j p I hj⟨f,M,c⟩;obtain⟨e1,e2⟩:=Hm j (to.mpr hj);have R:=Paired.length c;rw[no]at R;refine aq (jm (bI ?_));refine U rfl ⟨"abcde",_,97+j,rfl,rfl,dn (by decide+kernel),e1,"mark",(⟨#[97+j]⟩:Str),rfl,rfl,dn (show 4+1<=65536 by decide),U rfl (r2 ⟨ls rfl,λt ht=>?_⟩)⟩;have J:=ai (o:=.tup [.str (("mark":Str)++(⟨#[97+j]⟩:Str)),.int (0+(j:Int)-2)]) (ao.refl I) ht;have al:=J _ _ M;refine⟨al,by rw[j1];lia,lf hj ⟨a0 (f.trans J) hD,O,?_⟩⟩;rw[cu e2];exact sK (.lst al) (Paired.snoc (sK (.of J) c) ⟨t,rfl,aT.of O⟩)
    ·rintro p I⟨f,M,c⟩;have R:=Paired.length c;have a8:=Paired.length G;have L:=b.length_le;rw[c_,c_,rl]at L;refine U rfl ⟨D,l,_,U rfl ⟨rfl,M,f _ _ hL,by rw[j1];have:p.length=5:=R;lia,λl' an=>aq (hJ _ _ ⟨ai (s1.trans f) an,l',Dv++g,_,O,sK (.new an) (qQ c (sK (.of f) G)),?_,λm hm=>?_,_,_,rfl⟩)⟩⟩
     ·rw[il];exact(Ra _).append b
     ·rcases Rz.mp hm with z|z
      ·exact(by decide:∀m∈Dv,-100<=m.2/\m.2<=100) m z
      ·exact hb m z
   case A=>rintro S I⟨f,l',ba,bu,bb,c,e,ap,W,X,rfl⟩;refine U rfl ⟨l',U rfl (.inl ⟨aO.of bb,λt ht=>?_⟩)⟩;obtain⟨m1,m2⟩:=GJ (n/8);have bz:=qF;exact q t ba _ (ai f ht) (Od (sK (.new ht) c) (aT.of O)) (λm hm=>⟨CZ (m2 _ (e.subset (mo.mpr ⟨m,hm,rfl⟩))),by have:=ap m hm;lia,by have:=ap m hm;lia⟩) (e.nodup m1) (by have:=e.length_le;rw[c_]at this;exact this)
end
def zG(p:Nat):Prop:=p∈[2,3,5,7,11,13,17,37,61]
def zG.le(h:zG p):2<=p/\p<=61:=(by decide:∀p∈[2,3,5,7,11,13,17,37,61],2<=p/\p<=61) p h
structure xX where
 pl:Addr
 L:Addr
 T:Addr
def DB(K:RC)(H:Hp)(v:V)(t:Str×Nat):Prop:=∃b,v=.ref b/\aT K H b [.str t.1,.int t.2]
def DB.kp(e:Kp H H')(h:Paired (DB K H) c d):Paired (DB K H') c d:=Paired.mapP h λv m⟨b,h1,h2⟩=>⟨b,h1,e.tq h2⟩
structure qd(K:RC)(H:Hp)(p:Nat)(sa:Int)(ns:RI)(ts:List (Str×Nat))(A:xX):Prop where
 pl:H A.pl=some (.lst [.int p,.int sa,.ref A.L,.ref A.T])L:H A.L=some (.lst (ns.map V.str))T:∃us,H A.T=some (.lst us)/\Paired (DB K H) us ts
 n1:A.pl≠A.L
 n2:A.pl≠A.T
 n3:A.L≠A.T
def qd.same(h:qd K H p sa ns b A)(e:ao H H'):qd K H' p sa ns b A:=let⟨c,h1,h2⟩:=h.T
 ⟨e _ _ h.pl,e _ _ h.L,⟨c,e _ _ h1,DB.kp (.of e) h2⟩,h.n1,h.n2,h.n3⟩
inductive IP(K:RC)(vs:List V)(H:Hp)(Q:VK)(_E:XK):Prop|mk(sc:Addr)(ns:RN)(_:vs=[.ref sc])(_:aO K H sc (ns.map V.int))(_:ns.length<=63)(_:∀(A:xX)(p:Nat)(sa:Int)H',ao H H'->H A.pl=none->H A.L=none->H A.T=none->qd K H' p sa [] [] A->zG p->(0<=sa/\sa<=df)->Q (.ref A.pl) H')
section
def Gn(T:Txt K mg a):aP P w K mg base dI 3 a.x4.x a.x4.d ["_law_script"] (IP K):=by
 refine T.x4.ok uL λW A outer s H vs Q E F h=>?_
 ·obtain⟨G,ns,rfl,I,J,q⟩:=h;have X:=xk;refine⟨_,(ag (bf 1 uL.nd (pc T.dW (cG T) F (ac (Y 0) (ac af (ac af ae))))) (ag (bf 2 uL.nd (iF K (bg (ac af (ac af (ac af (ac af (ac af (ac af (ac af (ac (iF K (bg (ac af (ac af (ac af (ac af ae))))) (av aR (av bB (Y 1) af) af)) ae))))))))) (av aR (Y 1) af))) (ah (ax (bg (ac (Y 2) (ac (av aR (pc T.jK (sH T) F (ac (Y 0) (ac af ae))) (av bS (av uT af af) af)) (ac (bg ae) (ac (bg ae) ae))))))))),?_⟩
  refine U rfl ⟨G,ns,0,1,rfl,I,J,⟨by decide,by decide⟩,⟨by decide,by decide⟩,aq ?_⟩;generalize cr ns 0 1=x;refine⟨ls rfl,λj r=>?_⟩;have M:=ai (o:=.lst [V.int 5,V.int 17,V.int 37,V.int 61]) (ao.refl H) r;have e:az H j (.lst [V.int 5,V.int 17,V.int 37,V.int 61]) j=some (.lst [V.int 5,V.int 17,V.int 37,V.int 61]):=O;generalize az H j (.lst [V.int 5,V.int 17,V.int 37,V.int 61])=t at M e⊢;have b4:=bD (x/8) (show(0:Int)<4 by decide);have u:=bD x (show(0:Int)<8 by decide);obtain⟨z,v,N⟩:=mL (ns:=[5,17,37,61]) b4.1 b4.2
  walk_at "a"
  refine⟨j,_,_,U rfl ⟨rfl,aO.of e,N,ls rfl,λk y=>?_⟩⟩;have R:=ai (o:=.lst [V.int 2,V.int 3,V.int 5,V.int 7,V.int 11,V.int 13,V.int 7,V.int z]) (ao.refl t) y;have f:az t k (.lst [V.int 2,V.int 3,V.int 5,V.int 7,V.int 11,V.int 13,V.int 7,V.int z]) k=some (.lst [V.int 2,V.int 3,V.int 5,V.int 7,V.int 11,V.int 13,V.int 7,V.int z]):=O;generalize az t k (.lst [V.int 2,V.int 3,V.int 5,V.int 7,V.int 11,V.int 13,V.int 7,V.int z])=l at R f⊢;obtain⟨p,B,g⟩:=mL (ns:=[2,3,5,7,11,13,7,z]) u.1 u.2
  walk_at "a"
  refine⟨k,_,_,U rfl ⟨rfl,aO.of f,g,aq ?_⟩⟩;have C:zG p.toNat/\0<=p:=by
   simp only[pv,oe,w_]at B v;rcases B with rfl|rfl|rfl|rfl|rfl|rfl|rfl|rfl
   all_goals try exact⟨by unfold zG;decide,by decide⟩
   rcases v with rfl|rfl|rfl|rfl
   all_goals exact⟨by unfold zG;decide,by decide⟩
  obtain⟨pn,rfl⟩:∃n:Nat,p=n:=⟨p.toNat,by lia⟩;clear B g f v N e b4 u;have i:=M.trans R;refine U rfl (U rfl ⟨G,ns,1,rfl,i.seq I,J,?_⟩);generalize xQ ns 1=c;have Z:=bD c (show(0:Int)<df+1 by lia)
  walk_at "a"
  refine⟨ls rfl,λL D=>⟨ls rfl,λT m=>⟨ls rfl,λpl b=>?_⟩⟩⟩;have n3:L≠T:=λz=>by rw[<-z,O]at m;cases m
  have n2:pl≠T:=λz=>by rw[z,O]at b;cases b
  have n1:pl≠L:=λz=>by rw[z,am n3,O]at b;cases b
  have S:ao l (az (az l L (.lst [])) T (.lst [])):=ai (ai (ao.refl l) D) m;exact q ⟨pl,L,T⟩ pn _ _ (i.trans (ai S b)) ((i.trans S).free b) (i.free D) ((i.trans (ai (ao.refl l) D)).free m) ⟨O,by show az _ _ _ L=_;rw[am (o_ n1),am n3,O];rfl,⟨[],by show az _ _ _ T=_;rw[am (o_ n2),O],.nil⟩,n1,n2,n3⟩ C.1 ⟨Z.1,by lia⟩
end
def gn(M:bG):List Str:=M.las.map cD.nm
def fV(M:bG):List (Str×Nat):=M.trs.map λt=>(t.nm,t.arms.length)
def u9(M:bG):Dd->List Str|.layer nm _=>gn M++[nm]|_=>gn M
def sy(M:bG):Dd->List (Str×Nat)|.trial x=>fV M++[(x.nm,x.arms.length)]|_=>fV M
structure nX(ns:RN)(M:bG):Prop where
 ln:∀(i:Nat)(l:cD),M.las[i]?=some l->l.nm=cL i (cr ns 1 2)/\l.sl=(cr ns 2 2+i)%((M.p:Int)+1)tn:∀(j:Nat)(t:et),M.trs[j]?=some t->t.nm=cL j (cr ns 2 3)lp:M.las.length<=M.p+1
 pr:zG M.p
def KC(ns:RN)(M:bG):Dd->Prop|.layer nm sl=>nm=cL M.las.length (cr ns 1 2)/\sl=(cr ns 2 2+M.las.length)%((M.p:Int)+1)/\M.las.length<M.p+1|.trial x=>x.nm=cL M.trs.length (cr ns 2 3)|.deal _ z b=>z<=100/\∀x∈b,x<=9|.visit g=>∃j:Int,0<=j/\j<7/\M0 j (cr ns 4 6) g|_=>True
def OZ(A:xX)(H H':Hp):Prop:=∃o,(o=A.L\/o=A.T)/\Kp H H'/\∀b ob,H b=some ob->b≠o->H' b=some ob
theorem OZ.of(s:ao H H'):OZ A H H':=⟨A.L,.inl rfl,.of s,λb o h _=>s b o h⟩
def jR(K:RC)(ns:RN)(M:bG)(A:xX)(H:Hp)(Q:VK):Prop:=∀(b:Addr)(d:Dd)(c:List V)(H':Hp),OZ A H H'->aT K H' b c->ii K H' M d c->qd K H' M.p M.salt (u9 M d) (sy M d) A->KC ns M d->(M.trs.length=0->d.adds=true)->Q (.ref b) H'
def jR.same(h:jR K ns M A H Q)(s:ao H c):jR K ns M A c Q:=λe d f H'⟨o,h1,h2,h3⟩=>h e d f H' ⟨o,h1,Kp.trans (.of s) h2,λb ob g=>h3 b ob (s b ob g)⟩
structure xg(K:RC)(H:Hp)(sc:Addr)(ns:RN)(M:bG)(A:xX)(c:Nat):Prop where
 sq:aO K H sc (ns.map V.int)len:ns.length<=63
 pl:qd K H M.p M.salt (gn M) (fV M) A
 ok:nu M c
 pn:nX ns M
 n4:∀H',(∀b ob,H b=some ob->b≠A.L->H' b=some ob)->aO K H' sc (ns.map V.int)
theorem xg.same(h:xg K H d ns M A c)(s:ao H H'):xg K H' d ns M A c:=⟨s.seq h.sq,h.len,h.pl.same s,h.ok,h.pn,λf g=>h.n4 f λb ob e n=>g b ob (s b ob e) n⟩
def qd.addL(h:qd K H p sa ns b A)(x:Str):qd K (az H A.L (.lst (ns.map V.str++[.str x]))) p sa (ns++[x]) b A:=let⟨c,h1,h2⟩:=h.T
 ⟨by rw[am h.n1];exact h.pl,by rw[O,il];rfl,⟨c,by rw[am (o_ h.n3)];exact h1,DB.kp (.lst h.L) h2⟩,h.n1,h.n2,h.n3⟩
def qd.addT(h:qd K H p sa ns c A)(h1:H A.T=some (.lst d))(h2:Paired (DB K H) d c)(e:aT K H b [.str x.1,.int x.2]):qd K (az H A.T (.lst (d++[.ref b]))) p sa ns (c++[x]) A:=⟨by rw[am h.n2];exact h.pl,by rw[am h.n3];exact h.L,⟨_,O,DB.kp (.lst h1) (Paired.snoc h2 ⟨b,rfl,e⟩)⟩,h.n1,h.n2,h.n3⟩
inductive LD(K:RC)(vs:List V)(H:Hp)(Q:VK)(_E:XK):Prop|mk(sc:Addr)(ns:RN)(M:bG)(A:xX)(c:Nat)(_:vs=[.ref sc,.ref A.pl])(_:xg K H sc ns M A c)(_:M.las.length<4)(_:M.las.length<M.p+1)(_:jR K ns M A H Q)
def Ee(h:nX ns M)(c:M.las.length<M.p+1):(cr ns 2 2+M.las.length)%((M.p:Int)+1)∉M.las.map cD.sl:=λz=>by obtain⟨l,hm,e⟩:=mo.mp z;obtain⟨i,hi⟩:=k_.mp hm;have b:=(d_.mp hi).1;rw[(h.ln i l hi).2]at e;have h1:((cr ns 2 2+M.las.length)-(cr ns 2 2+i))%((M.p:Int)+1)=0:=Int.emod_eq_emod_iff_emod_sub_eq_zero.mp e.symm;rw[show(cr ns 2 2+(M.las.length:Int))-(cr ns 2 2+i)=((M.las.length-i:Nat):Int)by lia,Int.emod_eq_of_lt (by exact j2 _) (by lia)]at h1;lia
def Ex(h:nX ns M)(c:M.las.length<4):cL M.las.length (cr ns 1 2)∉M.las.map cD.nm:=λz=>by obtain⟨l,hm,e⟩:=mo.mp z;obtain⟨i,hi⟩:=k_.mp hm;have b:=(d_.mp hi).1;rw[(h.ln i l hi).1]at e;have:=qC ⟨by exact j2 _,by lia⟩ ⟨by exact j2 _,by lia⟩ e;lia
def D1(h:nX ns M)(c:M.trs.length<10):cL M.trs.length (cr ns 2 3)∉M.trs.map et.nm:=λz=>by obtain⟨t,hm,e⟩:=mo.mp z;obtain⟨i,hi⟩:=k_.mp hm;have b:=(d_.mp hi).1;rw[h.tn i t hi]at e;have:=qC ⟨by exact j2 _,by lia⟩ ⟨by exact j2 _,by lia⟩ e;lia
section
def wH(T:Txt K mg a):aP P w K mg base dI 3 a.gX.x a.gX.d ["_law_script","_law_plan_here"] (LD K):=by
 refine T.gX.ok kg λC A outer s H I Q E r h=>?_
 ·obtain⟨z,ns,M,A,c,rfl,g,h4,B,q⟩:=h;refine⟨_,(ag (bf 2 kg.nd (au (aG K rfl) (by rfl) T.bp L2.aH (ac (iF K (Y 1) af) ae))) (ag (bf 3 kg.nd (pc T.sW (u4 T) r (ac (Y 2) (ac (pc T.dW (cG T) r (ac (Y 0) (ac af (ac af ae)))) ae)))) (ag (aN (gK K rfl PySem.F.plainAttrs_list PySem.F.slot_list_append PySem.F.type_list_append dG (iF K (Y 1) af) (ac (Y 3) ae))) (ah (ax (bF (ac aB (ac (Y 3) (ac (av aR (av bS (pc T.dW (cG T) r (ac (Y 0) (ac af (ac af ae)))) (Y 2)) (av bS (iF K (Y 1) af) af)) ae))))))))),?_⟩
  have t:=g.pl;have j:(gn M).length=M.las.length:=c_ _;refine U rfl (rX (aO.of t.pl) (ak (k:=2) rfl) ⟨_,M.las.length,rfl,.inl ⟨_,aO.of t.L,by rw[c_,j]⟩,aq ?_⟩);refine U rfl (U rfl ⟨z,ns,1,2,rfl,g.sq,g.len,⟨by decide,by decide⟩,⟨by decide,by decide⟩,(M.las.length:Int),cr ns 1 2,rfl,λl m=>aq ?_⟩);have f:=t.same m;refine U rfl (rX (aO.of f.pl) (ak (k:=2) rfl) ⟨.inl ⟨rfl,_,aO.of f.L⟩,U rfl (rA f.L (by rw[c_,j,j1];exact n0 h4 (lh rfl)) ?_)⟩);have i:=f.addL (cL M.las.length (cr ns 1 2));have kp:Kp l (az l A.L (.lst ((gn M).map V.str++[.str (cL M.las.length (cr ns 1 2))]))):=.lst f.L;have u:∀b ob,l b=some ob->b≠A.L->az l A.L (.lst ((gn M).map V.str++[.str (cL M.las.length (cr ns 1 2))])) b=some ob:=λb ob e n=>by rw[am n];exact e
  generalize az l A.L (.lst ((gn M).map V.str++[.str (cL M.las.length (cr ns 1 2))]))=D at i kp u⊢;have bs:=bD (cr ns 2 2+M.las.length) (show(0:Int)<(M.p:Int)+1 by exact sD.mpr (rd _));refine U rfl (U rfl ⟨z,ns,2,2,rfl,(g.same m).n4 _ u,g.len,⟨by decide,by decide⟩,⟨by decide,by decide⟩,U rfl (r2 (U rfl (rX (aO.of i.pl) (ak (k:=0) rfl) (r2 (r2 ⟨by show(0:Int)<(M.p:Int)+1;exact sD.mpr (rd _),ls rfl,λG v=>?_⟩)))))⟩);have y:=ai (o:=.tup [.str "layer",.str (cL M.las.length (cr ns 1 2)),.int ((cr ns 2 2+M.las.length)%((M.p:Int)+1))]) (ao.refl D) v;exact q G (.layer _ _) _ _ ⟨A.L,.inl rfl,Kp.trans (.of m) (Kp.trans kp (.of y)),λb ob e n=>y _ _ (u b ob (m _ _ e) n)⟩ (aT.of O) (.layer (uh _ _) (Ex g.pn h4) ⟨bs.1,by lia⟩ (Ee g.pn B) h4) (i.same y) ⟨rfl,rfl,B⟩ λ_=>rfl
end
def i3(ns:RN)(m:Nat):List Str:=(List.range m).map λ(j:Nat)=>cL j (cr ns 3 4)
def HW(ns:RN)(h:m<=4):(i3 ns m).length=m/\(i3 ns m).Nodup/\∀x∈i3 ns m,Wd x:=by
 refine⟨by unfold i3;rw[c_,rl],?_,λx c=>?_⟩
 ·refine List.pairwise_iff_getElem.mpr λi j hi b d e=>?_;unfold i3 at e hi b;rw[c_,rl]at hi b;rw[Rn,Rn,List.getElem_range,List.getElem_range]at e;have:=qC ⟨by exact j2 _,by lia⟩ ⟨by exact j2 _,by lia⟩ e;lia
 ·obtain⟨j,_,rfl⟩:=mo.mp c;exact uh _ _
inductive LC(K:RC)(vs:List V)(H:Hp)(Q:VK)(_E:XK):Prop|mk(sc:Addr)(ns:RN)(M:bG)(A:xX)(c:Nat)(n:Int)(_:vs=[.ref sc,.ref A.pl,.int n])(_:xg K H sc ns M A c)(_:M.trs.length<10)(_:0<M.las.length)(_:jR K ns M A H Q)
section
def wG(T:Txt K mg a):aP P w K mg base dI 5 a.gW.x a.gW.d ["_law_script","_law_plan_here","_law_number"] (LC K):=by
 refine T.gW.ok cM λc4 A outer s H vs Q E N h=>?_
 ·obtain⟨sc,ns,M,A,c,n,rfl,R,h10,da,q⟩:=h;refine⟨_,(ag (bf 3 cM.nd (au (aG K rfl) (by rfl) T.bp L2.aH (ac (iF K (Y 1) af) ae))) (ag (bf 4 cM.nd (pc T.sW (u4 T) N (ac (Y 3) (ac (pc T.dW (cG T) N (ac (Y 0) (ac af (ac af ae)))) ae)))) (ag (bf 5 cM.nd (iF K (iF K (Y 1) af) (av aR (Y 2) (au (aG K rfl) (by rfl) T.bp L2.aH (ac (iF K (Y 1) af) ae))))) (ag (bf 6 cM.nd (db (fS K rfl) (by rfl) T.dO L2.bT (ac (wb lU [] [9] [9] (aj i8) (ck 9) (c9 rfl T.eD (ac (av bS af (av aR (av bB (Y 2) af) af)) ae)) (λcl C s₀ H₀ ex=>⟨(nz lU [] 9),bY,(pc T.sW (u4 T) N (ac (Y 9) (ac (pc T.dW (cG T) N (ac (Y 0) (ac af (ac af ae)))) ae)))⟩)) ae))) (ag (bf 7 cM.nd (bg ae)) (ag (bf 8 cM.nd (pc T.dW (cG T) N (ac (Y 0) (ac (av bS af (Y 3)) (ac af ae))))) (ag (dw op rfl (c9 rfl T.eD (ac (au (rZ rfl) (by rfl) T.Gz L2.vF (ac af (ac (Y 3) ae))) ae)) (pF 9 cM.nd) (ah (aJ (aC aS (av aR (av bB (Y 8) (iF K (bg (ac af (ac af (ac af (ac af (ac af (ac af (ac af (ac af ae))))))))) (Y 9))) af) af (aE _)) (ah (aN (gK K rfl PySem.F.plainAttrs_list PySem.F.slot_list_append PySem.F.type_list_append dG (Y 7) (ac (cS K (iF K (iF K (Y 1) af) (av fu (av fu (Y 3) af) (Y 9))) af) ae)))) aA))) (ag (aN (gK K rfl PySem.F.plainAttrs_list PySem.F.slot_list_append PySem.F.type_list_append dG (iF K (Y 1) af) (ac (bF (ac (Y 4) (ac (au (aG K rfl) (by rfl) T.bp L2.aH (ac (Y 6) ae)) ae))) ae))) (ah (ax (bF (ac aB (ac (Y 4) (ac (Y 5) (ac (Y 6) (ac (bP ((AD T 3).mono (by decide)) N rfl T.eJ.m T.eJ.f.kp T.eJ.b .nil bx (ac (av bB (Y 2) af) (ac af ae))) (ac (db (fS K rfl) (by rfl) T.dO L2.bT (ac (Y 7) ae)) ae))))))))))))))))),?_⟩
  have hP:=R.pl;have dc:(gn M).length=M.las.length:=c_ _;have b7:(fV M).length=M.trs.length:=c_ _;have l4:=R.ok.l4;obtain⟨us,an,ap⟩:=hP.T;have as:=Paired.length ap;rw[b7]at as;refine U rfl (rX (aO.of hP.pl) (ak (k:=3) rfl) ⟨_,M.trs.length,rfl,.inl ⟨_,aO.of an,by rw[as]⟩,aq ?_⟩);refine U rfl (U rfl ⟨sc,ns,2,3,rfl,R.sq,R.len,⟨by decide,by decide⟩,⟨by decide,by decide⟩,(M.trs.length:Int),cr ns 2 3,rfl,λH1 s1=>aq ?_⟩);have p:=R.same s1;have bl:=bD n (show(0:Int)<((gn M).length:Int)by lia);obtain⟨hm,b8,b9⟩:=iN bl.1 bl.2;refine U rfl (rX (aO.of p.pl.pl) (ak (k:=2) rfl) (U rfl (U rfl (rX (aO.of p.pl.pl) (ak (k:=2) rfl) ⟨_,(gn M).length,rfl,.inl ⟨_,aO.of p.pl.L,by rw[c_]⟩,_,U rfl ⟨rfl,by show(0:Int)<((gn M).length:Int);lia,A.L,_,_,U rfl ⟨rfl,aO.of p.pl.L,b9,aq ?_⟩⟩⟩))));have b4:=bD (n/4) (show(0:Int)<4 by decide)
  walk_at "a"
  refine⟨by lia,by lia,λD hD=>?_⟩;obtain⟨m,cc,a7,em⟩:∃m:Nat,1<=m/\m<=4/\1+n/4%4=(m:Int):=⟨(1+n/4%4).toNat,by lia,by lia,by lia⟩;rw[em];obtain⟨al,a8,aw⟩:=HW ns a7;refine fC (K:=K) (lo:=0) (n:=(m:Int).toNat) (λj S H'=>ao H1 H'/\H' D=some (.lst S)/\S=((i3 ns m).take j).map V.str) ⟨ai (ao.refl _) hD,O,rfl⟩ ?_ ?_
  ·rintro j S H2 hj⟨s2,G,rfl⟩;rw[show(0:Int)+(j:Int)=((j:Nat):Int)by lia];refine aq (jm (bI ?_));refine U rfl (U rfl ⟨sc,ns,3,4,rfl,s2.seq p.sq,R.len,⟨by decide,by decide⟩,⟨by decide,by decide⟩,(j:Int),cr ns 3 4,rfl,λH3 s3=>?_⟩);refine⟨s3 _ _ G,by rw[c_,no,j1];omega,lf hj ⟨a0 (s2.trans s3) hD,O,?_⟩⟩;have e:(i3 ns m)[j]?=some (cL (j:Int) (cr ns 3 4)):=by unfold i3;rw[ig,List.getElem?_range (by exact hj)];rfl
   rw[cu e,il];rfl
  ·rintro S H2⟨s2,G,rfl⟩;rw[ku (by exact PL al)]at G;refine⟨D,U rfl (.inl ⟨aO.of G,λar ba=>aq ?_⟩)⟩;have s3:ao H1 (az H2 ar (.tup ((i3 ns m).map V.str))):=ai s2 ba;have W:az H2 ar (.tup ((i3 ns m).map V.str)) ar=some (.tup ((i3 ns m).map V.str)):=O;generalize az H2 ar (.tup ((i3 ns m).map V.str))=H3 at s3 W⊢;clear G s2 ba hD;refine⟨ls rfl,λsl a2=>aq ?_⟩;have s4:=ai (o:=.lst []) s3 a2;have X:=ai (o:=.lst []) (ao.refl H3) a2 _ _ W;have bb:=p.same s4;have Z:H1 sl=none:=s3.free a2;have aa:az H3 sl (.lst []) sl=some (.lst []):=O;generalize az H3 sl (.lst [])=H4 at s4 X bb aa⊢;refine U rfl (U rfl (r2 ⟨sc,ns,5+(M.trs.length:Int),7,rfl,bb.sq,R.len,⟨by exact j2 _,by lia⟩,⟨by decide,by decide⟩,aq ?_⟩));generalize cr ns (5+(M.trs.length:Int)) 7=mr;have a3:(if(M.trs.length:Int)<8 then(M.trs.length:Int)else 8)=((min 8 M.trs.length:Nat):Int):=by split<;>lia
   refine U rfl ⟨_,U rfl (U rfl ⟨by rw[a3];exact j2 _,by rw[a3];lia,?_⟩)⟩;rw[a3];have nd:((M.trs.map et.nm).reverse).Nodup:=List.pairwise_reverse.mpr (List.Pairwise.imp (λh=>o_ h) R.ok.tn);have di:((M.trs.map et.nm).reverse).length=M.trs.length:=by rw[Qh,c_]
   refine gO (lo:=0) (n:=((min 8 M.trs.length:Nat):Int).toNat) (λi σ H'=>ao H1 H'/\H' ar=some (.tup ((i3 ns m).map V.str))/\∃(B:RI),H' sl=some (.lst (B.map V.str))/\B.Sublist ((M.trs.map et.nm).reverse.take i)/\∃v9,σ=[some (.ref sc),some (.ref A.pl),some (.int n),some (.int M.trs.length),some (.str (cL M.trs.length (cr ns 2 3))),some (.str hm),some (.ref ar),some (.ref sl),some (.int mr),v9]) ⟨s4,X,[],aa,List.nil_sublist _,_,rfl⟩ ?_ ?_
   ·rintro i σ H5 hi⟨I,g,B,hz,l,v9,rfl⟩;have dt:i<min 8 M.trs.length:=by exact hi
    refine aq ?_;refine U rfl ⟨ls rfl,λl5 ci=>?_⟩;have u:=ai (o:=.lst [V.int 1,V.int 4,V.int 16,V.int 64,V.int 256,V.int 1024,V.int 4096,V.int 16384]) (ao.refl H5) ci;have bc:az H5 l5 (.lst [V.int 1,V.int 4,V.int 16,V.int 64,V.int 256,V.int 1024,V.int 4096,V.int 16384]) l5=some (.lst [V.int 1,V.int 4,V.int 16,V.int 64,V.int 256,V.int 1024,V.int 4096,V.int 16384]):=O;generalize az H5 l5 (.lst [V.int 1,V.int 4,V.int 16,V.int 64,V.int 256,V.int 1024,V.int 4096,V.int 16384])=H6 at u bc⊢;obtain⟨d,hd,ha⟩:=mL (ns:=[1,4,16,64,256,1024,4096,16384]) (i:=0+(i:Int)) (by exact j2 _) (by show _<(8:Int);lia);have cE:=(by decide:∀d∈[(1:Int),4,16,64,256,1024,4096,16384],0<d/\d<1073741824) d hd;refine U rfl ⟨l5,_,_,U rfl ⟨rfl,aO.of bc,ha,_,U rfl ⟨rfl,cE,_,U rfl ⟨rfl,(show(0:Int)<4 by decide),rfl,U rfl ?_⟩⟩⟩⟩;have a5:(M.trs.map et.nm).reverse[i]?=(M.trs.map et.nm)[M.trs.length-1-i]?:=by rw[List.getElem?_reverse (by rw[c_];lia),c_]
    obtain⟨t,ht⟩:∃t,M.trs[M.trs.length-1-i]?=some t:=⟨_,hY (by lia)⟩;rw[ig,ht]at a5;refine kW (λ_=>?_) (λ_=>⟨I.trans u,u _ _ g,B,u _ _ hz,by rw[cu a5];exact l.trans (List.sublist_append_left _ _),_,rfl⟩);have c0:=p.pl.same (I.trans u);obtain⟨v,hv,b,rfl,hb⟩:=qP ap (M.trs.length-1-i) (t.nm,t.arms.length) (by unfold fV;rw[ig,ht];rfl);have y:=(s1.trans (I.trans u)) _ _ an;have bd:=u _ _ hz;have a6:=l.length_le;rw[no]at a6;refine U rfl ⟨.inl ⟨rfl,_,aO.of bd⟩,U rfl (rX (aO.of c0.pl) (ak (k:=3) rfl) (U rfl (r2 (U rfl (r2 ?_)))))⟩;refine rX (aO.of y) (by rw[show(M.trs.length:Int)-1-(0+(i:Int))=((M.trs.length-1-i:Nat):Int)by lia];exact ak hv) (rX (ao.tseq (s1.trans (I.trans u)) hb) (ak (k:=0) rfl) ?_);refine rA bd (by rw[c_,j1];lia) ⟨a0 (I.trans u) Z,by rw[am λz=>by rw[z,hz]at g;cases g];exact u _ _ g,B++[t.nm],by rw[O,il];rfl,?_,_,rfl⟩;rw[cu a5];exact l.append (Ra _)
   ·rintro σ H5⟨I,g,B,hz,l,v9,rfl⟩;have bi:=p.same I;have c1:=(l.trans (P3 _ _)).nodup nd;have a6:=l.length_le;rw[no]at a6;have J:=(s1.trans I) _ _ an;have bt:=DB.kp (.of (s1.trans I)) ap;refine U rfl (rX (aO.of bi.pl.pl) (ak (k:=3) rfl) ⟨.inl ⟨rfl,_,aO.of J⟩,U rfl (U rfl ⟨_,m,rfl,.inr ⟨_,aT.of g,by rw[c_,al]⟩,ls rfl,λb hb=>?_⟩)⟩);have u:=ai (o:=.tup [.str (cL M.trs.length (cr ns 2 3)),.int m]) (ao.refl H5) hb;have bu:az H5 b (.tup [.str (cL M.trs.length (cr ns 2 3)),.int m]) b=some (.tup [.str (cL M.trs.length (cr ns 2 3)),.int m]):=O;generalize az H5 b (.tup [.str (cL M.trs.length (cr ns 2 3)),.int m])=H6 at u bu⊢;have y:=u _ _ J;refine rA y (by rw[as,j1];exact n0 h10 (lh rfl)) ?_;have bz:=(bi.pl.same u).addT y (DB.kp (.of u) bt) (x:=(cL M.trs.length (cr ns 2 3),m)) (aT.of bu);have kp:Kp H6 (az H6 A.T (.lst (us++[.ref b]))):=.lst y;have hk:∀d ob,H6 d=some ob->d≠A.T->az H6 A.T (.lst (us++[.ref b])) d=some ob:=λd ob e n=>by rw[am n];exact e
    generalize az H6 A.T (.lst (us++[.ref b]))=H7 at bz kp hk⊢;have nT:∀{d:Addr},H1 d=none->d≠A.T:=λh z=>by rw[z,p.pl.T.choose_spec.1]at h;cases h
    have bK:=hk _ _ (u _ _ g) (λz=>by rw[z,J]at g;cases g);have c2:=hk _ _ (u _ _ hz) (nT Z);refine U rfl (U rfl (U rfl (U rfl (r2 ⟨⟨by decide,by decide⟩,n/16,3,rfl,by decide,by decide,λr rv H8 s8 N ho hh hc=>?_⟩))));refine U rfl ⟨sl,U rfl (.inl ⟨aO.of (s8 _ _ c2),λsh c3=>⟨ls rfl,λdv bN=>?_⟩⟩)⟩;obtain⟨ra,rfl⟩:∃ra,rv=.ref ra:=by cases N<;>exact⟨_,rfl⟩
    have s9:=ai (o:=.tup (B.map V.str)) (ao.refl H8) c3;have ad:az H8 sh (.tup (B.map V.str)) sh=some (.tup (B.map V.str)):=O;generalize az H8 sh (.tup (B.map V.str))=H9 at s9 ad bN⊢;have sa:=ai (o:=.tup [.str "trial",.str (cL M.trs.length (cr ns 2 3)),.str hm,.ref ar,.ref ra,.ref sh]) (ao.refl H9) bN;refine q dv (.trial ⟨cL M.trs.length (cr ns 2 3),hm,i3 ns m,r,B,false,false,[]⟩) _ _ ⟨A.T,.inr rfl,Kp.trans (.of ((s1.trans I).trans u)) (Kp.trans kp (.of ((s8.trans s9).trans sa))),λd ob e n=>((s8.trans s9).trans sa) _ _ (hk d ob (((s1.trans I).trans u) _ _ e) n)⟩ (aT.of O) ?_ ?_ rfl λ_=>rfl
    ·exact .trial ⟨uh _ _,b8,by rw[al];exact cc,by rw[al];exact a7,a8,aw,by show r.hgt<=6;lia,by show B.length<=8;lia⟩ (D1 R.pn h10) (aT.of (((s8.trans s9).trans sa) _ _ bK)) ((N.kp (.of s9)).kp (.of sa)) (by show r.cnt<=30;lia) ho (λw hw=>CZ ((by decide+kernel:∀w∈OS,M8 w=true) w hw)) (by decide) (aT.of (sa _ _ ad)) (λz hz=>P5.mp (P_ (l.subset hz))) c1 rfl rfl rfl h10
    ·have:=bz.same ((s8.trans s9).trans sa);rw[show sy M (.trial ⟨cL M.trs.length (cr ns 2 3),hm,i3 ns m,r,B,false,false,[]⟩)=fV M++[(cL M.trs.length (cr ns 2 3),m)]by show fV M++[(_,(i3 ns m).length)]=_;rw[al]];exact this
end
inductive FE(K:RC)(vs:List V)(H:Hp)(Q:VK)(_E:XK):Prop|mk(sc:Addr)(ns:RN)(M:bG)(A:xX)(c:Nat)(k n:Int)(_:vs=[.ref sc,.ref A.pl,.int k,.int n])(_:xg K H sc ns M A c)(_:(0<=k/\k<=1000))(_:0<M.trs.length)(_:jR K ns M A H Q)
def xg.tri(h:xg K H l ns M A c)(h1:H A.T=some (.lst d))(h2:Paired (DB K H) d (fV M))(n:Int)(h0:0<M.trs.length):∃(t:et)(b:Addr),t∈M.trs/\vJ d (n%(d.length:Int))=some (.ref b)/\aT K H b [.str t.nm,.int t.arms.length]:=by
 have e:=Paired.length h2;rw[show(fV M).length=M.trs.length from c_ _]at e;have b:=bD n (show(0:Int)<(d.length:Int)by lia);have f:(n%(d.length:Int)).toNat<M.trs.length:=by lia
 obtain⟨v,g,i,rfl,j⟩:=qP h2 (n%(d.length:Int)).toNat _ (by unfold fV;rw[ig,hY f];rfl);refine⟨_,i,C1 f,?_,j⟩;have:=ak g;rw[show(((n%(d.length:Int)).toNat:Nat):Int)=n%(d.length:Int)by lia]at this;exact this
section
def Eo(T:Txt K mg a):aP P w K mg base dI 3 a.su.x a.su.d ["_law_script","_law_plan_here","_law_k","_law_number"] (FE K):=by
 refine T.su.ok mU λal A outer s H vs Q E hr h=>?_
 ·obtain⟨sc,ns,M,A,c,k,n,rfl,u,⟨k0,k1⟩,h0,q⟩:=h;refine⟨_,(ag (bf 4 mU.nd (iF K (iF K (Y 1) af) (av aR (Y 3) (au (aG K rfl) (by rfl) T.bp L2.aH (ac (iF K (Y 1) af) ae))))) (ag (uO (i:=5) mU.nd rfl (.inr rfl) (av bS (av bB (iF K (Y 1) af) af) af)) (ag (aJ (aC aS (av aR (av bB (Y 3) af) af) af (aE _)) (ag (bf 6 mU.nd (db (fS K rfl) (by rfl) T.dO L2.bT (ac (wb mP ["_law_j"] [] [7] (aj my) (ck 7) (c9 rfl T.eD (ac (cS K (Y 4) af) ae)) (λcl C s₀ H₀ ex=>⟨(nz mP ["_law_j"] 7),bY,(av bS af (av aR (pc T.dW (cG T) hr (ac (Y 0) (ac (Y 2) (ac (av bS af (Y 7)) ae)))) af))⟩)) ae))) (ah (ax (bF (ac aB (ac (cS K (Y 4) af) (ac (av aR (pc T.dW (cG T) hr (ac (Y 0) (ac (Y 2) (ac af ae)))) (av bS (iF K (Y 1) af) af)) (ac (Y 6) ae)))))))) aA) (ah (ax (bF (ac aB (ac (cS K (Y 4) af) (ac (db (fS K rfl) (by rfl) T.dO L2.bT (ac (wb mP ["_law_j"] [] [7] (aj my) (ck 7) (c9 rfl T.eD (ac (cS K (Y 4) af) ae)) (λcl C s₀ H₀ ex=>⟨(nz mP ["_law_j"] 7),bY,(av aR (pc T.dW (cG T) hr (ac (Y 0) (ac (Y 2) (ac (av bS af (Y 7)) ae)))) (Y 5))⟩)) ae)) ae))))))))),?_⟩
  have J:=u.pl;have hp:=u.pn.pr.le;have an:=qF;obtain⟨us,L,X⟩:=J.T;have aa:=Paired.length X;rw[show(fV M).length=M.trs.length from c_ _]at aa;obtain⟨t,b,B,ad,hb⟩:=u.tri L X n h0;have a1:=(u.ok.tr t B).a1;have a4:=(u.ok.tr t B).a4;refine U rfl (rX (aO.of J.pl) (ak (k:=3) rfl) (U rfl (U rfl (rX (aO.of J.pl) (ak (k:=3) rfl) ⟨_,us.length,rfl,.inl ⟨_,aO.of L,rfl⟩,_,U rfl ⟨rfl,by show(0:Int)<(us.length:Int);lia,A.T,_,_,U rfl ⟨rfl,aO.of L,ad,aq ?_⟩⟩⟩))));refine U rfl (rX (aO.of J.pl) (ak (k:=0) rfl) (r2 ⟨⟨by decide,by decide⟩,_,U rfl ⟨rfl,aq (Fl (rP ?_ (λN hN=>?_)))⟩⟩))
  rotate_left
  ·walk_at "a"
   refine kW (λ_=>?_) (λ_=>hN);refine U rfl (rX hb (ak (k:=1) rfl) (U rfl ⟨by exact j2 _,by lia,λD Z=>?_⟩));refine fC (K:=K) (lo:=0) (n:=(t.arms.length:Int).toNat) (λj f H'=>ao H H'/\H' D=some (.lst f)/\∃(e:RN),f=e.map V.int/\e.length=j/\∀x∈e,1<=x/\x<=9) ⟨ai (ao.refl _) Z,O,[],rfl,rfl,λx r=>nomatch r⟩ ?_ ?_
   ·rintro j f R hj⟨F,l,e,rfl,m,g⟩;refine aq (jm (bI ?_));have b9:=bD (cr ns k (11+(0+(j:Int)))) (show(0:Int)<9 by decide);refine U rfl (U rfl (U rfl (r2 ⟨sc,ns,k,11+(0+(j:Int)),rfl,F.seq u.sq,u.len,⟨by omega,by lia⟩,⟨by exact j2 _,by lia⟩,_,U rfl ⟨rfl,(show(0:Int)<9 by decide),_,U rfl ⟨rfl,?_⟩⟩⟩)));refine⟨l,by rw[c_,j1];lia,lf hj ⟨a0 F Z,O,e++[1+cr ns k (11+(0+(j:Int)))%9],by rw[il];rfl,by rw[iA,m];rfl,λx r=>?_⟩⟩;rcases Rz.mp r with z|z
    ·exact g x z
    ·rw[List.mem_singleton.mp z];lia
   ·rintro f R⟨F,l,e,rfl,m,g⟩;refine⟨D,U rfl (.inl ⟨aO.of l,λG S=>aq ?_⟩)⟩;have y:=ai (o:=.tup (e.map V.int)) F S;have v:az R G (.tup (e.map V.int)) G=some (.tup (e.map V.int)):=O;generalize az R G (.tup (e.map V.int))=H3 at y v⊢;have bz:=bD (cr ns k 10) (show(0:Int)<(M.p:Int)+1 by exact sD.mpr (rd _));refine U rfl (rX (ao.tseq y hb) (ak (k:=0) rfl) (U rfl (U rfl ⟨sc,ns,k,10,rfl,y.seq u.sq,u.len,⟨by omega,by lia⟩,⟨by decide,by decide⟩,U rfl (rX (aO.of (y _ _ J.pl)) (ak (k:=0) rfl) (r2 (r2 ⟨by show(0:Int)<(M.p:Int)+1;exact sD.mpr (rd _),U rfl ⟨ls rfl,λdv I=>?_⟩⟩)))⟩)));have W:=ai (o:=.tup [.str "deal",.str t.nm,.int (cr ns k 10%((M.p:Int)+1)),.ref G]) (ao.refl H3) I;exact q dv (.deal t _ e) _ _ (.of (y.trans W)) (aT.of O) (.deal B ⟨bz.1,by lia⟩ (aT.of (W _ _ v)) (by exact m) λx r=>⟨(g x r).1,by have:=(g x r).2;lia⟩) (J.same (y.trans W)) ⟨by lia,λx r=>(g x r).2⟩ λz=>absurd z (ot h0)
  ·refine U rfl (rX hb (ak (k:=0) rfl) (U rfl (rX hb (ak (k:=1) rfl) (U rfl ⟨by exact j2 _,by lia,λD Z=>?_⟩))));refine fC (K:=K) (lo:=0) (n:=(t.arms.length:Int).toNat) (λj f H'=>ao H H'/\H' D=some (.lst f)/\∃(e:RN),f=e.map V.int/\e.length=j/\∀x∈e,0<=x) ⟨ai (ao.refl _) Z,O,[],rfl,rfl,λx r=>nomatch r⟩ ?_ ?_
   ·rintro j f R hj⟨F,l,e,rfl,m,g⟩;refine aq (jm (bI ?_));have b9:=bD (cr ns k (11+(0+(j:Int)))) (show(0:Int)<(M.p:Int)/2+2 by exact sD.mpr (rd _));refine U rfl (U rfl (U rfl (r2 ⟨sc,ns,k,11+(0+(j:Int)),rfl,F.seq u.sq,u.len,⟨by omega,by lia⟩,⟨by exact j2 _,by lia⟩,U rfl (r2 ⟨(by show(0:Int)<(M.p:Int)/2+2;exact sD.mpr (rd _)),?_⟩)⟩)));refine⟨l,by rw[c_,j1];lia,lf hj ⟨a0 F Z,O,e++[cr ns k (11+(0+(j:Int)))%((M.p:Int)/2+2)],by rw[il];rfl,by rw[iA,m];rfl,λx r=>?_⟩⟩;rcases Rz.mp r with z|z
    ·exact g x z
    ·rw[List.mem_singleton.mp z];exact b9.1
   ·rintro f R⟨F,l,e,rfl,m,g⟩;refine⟨D,U rfl (.inl ⟨aO.of l,λG S=>⟨ls rfl,λdv I=>?_⟩⟩)⟩;have y:=ai (o:=.tup (e.map V.int)) F S;have v:az R G (.tup (e.map V.int)) G=some (.tup (e.map V.int)):=O;generalize az R G (.tup (e.map V.int))=H3 at y v I⊢;have W:=ai (o:=.tup [.str "share",.str t.nm,.ref G]) (ao.refl H3) I;exact q dv (.share t e) _ _ (.of (y.trans W)) (aT.of O) (.share B (aT.of (W _ _ v)) (by exact m) g) (J.same (y.trans W)) trivial λz=>absurd z (ot h0)
end
def vj(F G:Prop)(hc:∀Q:Bool->Hp->Prop,(F->Q true H)->(G->Q false H)->c b H Q)(h1:F->∀N:St->Hp->Prop,t {D with nx:=N} b H)(h2:G->u D b H):Fw (IC c t zS) u D b H:=hc _ (λf=>bI (h1 f _)) λg=>b0 (h2 g)
def CK{c:Prop}[Decidable c]{Q:Bool->Hp->Prop}{H:Hp}(h1:c->Q true H)(h2:¬c->Q false H):Q (decide c) H:=by
 by_cases e:c
 ·rw[m3 e];exact h1 e
 ·rw[nk e];exact h2 e
def Pm{te:TE}{g:TG}{u:TS}{D:oW}{c:St}(h1:∀Q:VK,(∀b,Q (.bl b) H)->te c H Q)(h2:∀b,g (.bl b) c H (u D)):Fw (zT te g) u D c H:=h1 _ h2
inductive IW(K:RC)(vs:List V)(H:Hp)(Q:VK)(_E:XK):Prop|mk(sc:Addr)(ns:RN)(M:bG)(A:xX)(c:Nat)(k:Int)(_:vs=[.ref sc,.ref A.pl,.int k])(_:xg K H sc ns M A c)(_:(0<=k/\k<=1000))(_:jR K ns M A H Q)
section
def Go(T:Txt K mg a):aP P w K mg base dI 6 a.x5.x a.x5.d ["_law_script","_law_plan_here","_law_k"] (IW K):=by
 refine T.x5.ok kN λap A outer s H vs Q E J h=>?_
 ·obtain⟨W,ns,M,A,c,k,rfl,v,⟨k0,k1⟩,q0⟩:=h;refine⟨_,(ag (bf 3 kN.nd (pc T.dW (cG T) J (ac (Y 0) (ac (Y 2) (ac af ae))))) (ag (bf 4 kN.nd (av bB (Y 3) af)) (ag (bf 5 kN.nd (pc T.oU (xu T) J (ac (av aR (Y 4) af) (ac (pc T.dW (cG T) J (ac (Y 0) (ac af (ac af ae)))) ae)))) (ag (aJ (PW.pt (fb (aC aS (au (aG K rfl) (by rfl) T.bp L2.aH (ac (iF K (Y 1) af) ae)) af (aE _)) (dD (PW.pt (qN (aC aS (av aR (Y 3) af) af (aE _)) (mV (aC At (au (aG K rfl) (by rfl) T.bp L2.aH (ac (iF K (Y 1) af) ae)) (au (rZ rfl) (by rfl) T.Gz L2.vF (ac (av bS (iF K (Y 1) af) af) (ac af ae))) (aE _)))))))) (ah (ax (pc T.gX (wH T) J (ac (Y 0) (ac (Y 1) ae))))) aA) (ag (bf 6 kN.nd (cI (bW At (Y 2) af (aE _)) (dF (bW At (av aR (Y 3) af) af (aE _))))) (ag (aJ (PW.pt (fb (aC aS (au (aG K rfl) (by rfl) T.bp L2.aH (ac (iF K (Y 1) af) ae)) af (aE _)) (dD (PW.pt (qN (aC At (au (aG K rfl) (by rfl) T.bp L2.aH (ac (iF K (Y 1) af) ae)) af (aE _)) (mV (PW.pt (fb (aM K rfl (Y 6) (λ_=>rfl)) (dD (aC aS (av aR (Y 3) af) af (aE _))))))))))) (ah (ax (pc T.gW (wG T) J (ac (Y 0) (ac (Y 1) (ac (Y 4) ae)))))) aA) (ag (aJ (aC At (av aR (Y 3) af) af (aE _)) (ah (ax (pc T.su (Eo T) J (ac (Y 0) (ac (Y 1) (ac (Y 2) (ac (Y 4) ae))))))) aA) (ag (bf 7 kN.nd (cS K (iF K (iF K (Y 1) af) (av aR (av bB (Y 4) af) (au (aG K rfl) (by rfl) T.bp L2.aH (ac (iF K (Y 1) af) ae)))) af)) (ag (aJ (aC aS (av aR (Y 3) af) af (aE _)) (ah (ax (bF (ac aB (ac (iF K (iF K (Y 1) af) (av aR (Y 4) (au (aG K rfl) (by rfl) T.bp L2.aH (ac (iF K (Y 1) af) ae)))) (ac (av aR (av bB (Y 4) af) (av bS (av bB (iF K (Y 1) af) af) af)) ae)))))) aA) (ag (aJ (aC aS (av aR (Y 3) af) af (aE _)) (ah (ax (bF (ac (iF K (bg (ac aB (ac aB (ac aB ae)))) (av aR (Y 4) af)) (ac (Y 7) ae))))) aA) (ag (aJ (aC aS (av aR (Y 3) af) af (aE _)) (ah (ax (bF (ac (iF K (bg (ac aB (ac aB (ac aB (ac aB ae))))) (av aR (Y 4) af)) (ac (Y 7) ae))))) aA) (ag (aJ (aC aS (av aR (Y 3) af) af (aE _)) (ah (ax (bF (ac aB (ac (Y 5) (ac (Y 7) ae)))))) aA) (ah (ax (bF (ac aB (ac (Y 5) (ac (pc T.oT (xt T) J (ac (av bB (Y 4) af) ae)) ae)))))))))))))))))),?_⟩
  refine U rfl (U rfl ⟨W,ns,k,5,rfl,v.sq,v.len,⟨by omega,by lia⟩,⟨by decide,by decide⟩,aq ?_⟩);have x0:=(JF ns k 5).1;generalize cr ns k 5=x at x0⊢;refine U rfl (r2 ⟨⟨by decide,by decide⟩,aq ?_⟩);refine U rfl (r2 ⟨(show(0:Int)<7 by decide),U rfl ⟨W,ns,4,6,rfl,v.sq,v.len,⟨by decide,by decide⟩,⟨by decide,by decide⟩,x/16%7,cr ns 4 6,rfl,λg I s1 hg aa=>aq (Fl ?_)⟩⟩);have b7:=bD (x/16) (show(0:Int)<7 by decide);have S:=v.same s1;have q:=q0.same s1;clear v q0 s1;have i:=S.pl;have hp:=S.pn.pr.le;obtain⟨us,C,X⟩:=i.T;have ad:=Paired.length X;rw[show(fV M).length=M.trs.length from c_ _]at ad;have Z:((gn M).map V.str).length=M.las.length:=by rw[c_];exact c_ _
  refine vj (M.las.length<4/\M.las.length<M.p+1) (0<M.las.length) (λQ r u=>?_) (λf N=>?_) (λh0=>?_)
  ·refine U rfl (rX (aO.of i.pl) (ak (k:=2) rfl) ⟨_,M.las.length,rfl,.inl ⟨_,aO.of i.L,Z.symm⟩,rfl,U rfl (kW (λe=>r ⟨by lia,by lia⟩) (λe=>?_))⟩);refine U rfl (r2 ⟨(show(0:Int)<16 by decide),rfl,U rfl (kW (λ_=>?_) (λ_=>u (by lia)))⟩);refine U rfl (rX (aO.of i.pl) (ak (k:=2) rfl) ⟨_,M.las.length,rfl,.inl ⟨_,aO.of i.L,Z.symm⟩,U rfl (rX (aO.of i.pl) (ak (k:=0) rfl) (r2 ⟨(M.p:Int)+1,4,rfl,r2 (U rfl (CK (λf=>r ?_) (λ_=>u (by lia))))⟩))⟩)
   split at f<;>lia
  ·exact U rfl (U rfl ⟨W,ns,M,A,c,rfl,S,f.1,f.2,q⟩)
  refine Pm (λQ h=>?_) (λeb=>aq ?_)
  ·refine U rfl (r2 (U rfl (nB (λ_=>?_) (λ_=>h _))));exact U rfl (r2 ⟨(show(0:Int)<16 by decide),_,U rfl ⟨rfl,h _⟩⟩)
  refine vj (M.trs.length<10) (0<M.trs.length) (λQ r u=>?_) (λf N=>?_) (λF=>?_)
  ·refine U rfl (rX (aO.of i.pl) (ak (k:=3) rfl) ⟨_,us.length,rfl,.inl ⟨_,aO.of C,rfl⟩,rfl,U rfl (kW (λe=>r (by lia)) (λe=>?_))⟩);have g0:0<M.trs.length:=by lia
   refine U rfl (rX (aO.of i.pl) (ak (k:=3) rfl) ⟨_,us.length,rfl,.inl ⟨_,aO.of C,rfl⟩,_,U rfl ⟨rfl,U rfl (nB (λe=>?_) (λ_=>u g0))⟩⟩);have f:=r (by lia);refine U rfl ⟨eb,rfl,y9 (λ_=>f) (λ_=>?_)⟩;exact U rfl (r2 ⟨(show(0:Int)<16 by decide),rfl,U rfl (CK (λ_=>f) (λ_=>u g0))⟩)
  ·exact U rfl (U rfl (U rfl ⟨W,ns,M,A,c,x/16,rfl,S,f,h0,q⟩))
  refine vj True True (λQ r u=>?_) (λ_ N=>?_) (λ_=>?_)
  ·exact U rfl (r2 ⟨(show(0:Int)<16 by decide),_,U rfl ⟨rfl,U rfl (CK (λ_=>r trivial) (λ_=>u trivial))⟩⟩)
  ·exact U rfl (U rfl (U rfl (U rfl ⟨W,ns,M,A,c,k,x/16,rfl,S,⟨k0,k1⟩,F,q⟩)))
  obtain⟨t,b,y,al,hb⟩:=S.tri C X (x/16/7) F;refine U rfl (rX (aO.of i.pl) (ak (k:=3) rfl) (U rfl (r2 ⟨⟨by decide,by decide⟩,U rfl (rX (aO.of i.pl) (ak (k:=3) rfl) ⟨_,us.length,rfl,.inl ⟨_,aO.of C,rfl⟩,_,U rfl ⟨rfl,by show(0:Int)<(us.length:Int);lia,A.T,_,_,U rfl ⟨rfl,aO.of C,al,rX hb (ak (k:=0) rfl) (aq (Fl ?_))⟩⟩⟩)⟩)));refine vj True True (λQ r u=>?_) (λ_ N=>?_) (λ_=>?_)
  ·exact U rfl (r2 ⟨(show(0:Int)<16 by decide),rfl,U rfl (CK (λ_=>r trivial) (λ_=>u trivial))⟩)
  ·have as:(gn M).length=M.las.length:=c_ _;have bl:=bD (x/16) (show(0:Int)<((gn M).length:Int)by lia);have bz:=bD (x/16/4) (show(0:Int)<(M.p:Int)/3+2 by exact sD.mpr (rd _));obtain⟨nm,an,ha⟩:=iN bl.1 bl.2;obtain⟨l,hl,rfl⟩:=mo.mp an;refine U rfl (rX (aO.of i.pl) (ak (k:=2) rfl) (U rfl (U rfl (rX (aO.of i.pl) (ak (k:=2) rfl) ⟨_,(gn M).length,rfl,.inl ⟨_,aO.of i.L,by rw[c_]⟩,_,U rfl ⟨rfl,by show(0:Int)<((gn M).length:Int);lia,A.L,_,_,U rfl ⟨rfl,aO.of i.L,ha,?_⟩⟩⟩))));refine U rfl (r2 ⟨⟨by decide,by decide⟩,U rfl (rX (aO.of i.pl) (ak (k:=0) rfl) (r2 ⟨⟨by decide,by decide⟩,_,U rfl ⟨rfl,r2 ⟨by show(0:Int)<(M.p:Int)/3+2;exact sD.mpr (rd _),ls rfl,λB m=>?_⟩⟩⟩))⟩);have j:=ai (o:=.tup [.str "hold",.str l.nm,.int (x/16/4%((M.p:Int)/3+2))]) (ao.refl I) m;exact q B (.hold l _) _ _ (.of j) (aT.of O) (.hold hl bz.1) (i.same j) trivial λz=>absurd z (ot F)
  refine vj True True (λQ r u=>?_) (λ_ N=>?_) (λ_=>?_)
  ·exact U rfl (r2 ⟨(show(0:Int)<16 by decide),rfl,U rfl (CK (λ_=>r trivial) (λ_=>u trivial))⟩)
  ·refine⟨ls rfl,λG R=>?_⟩;have n:=ai (o:=.lst [V.str "pause",V.str "go",V.str "go"]) (ao.refl I) R;have D:az I G (.lst [V.str "pause",V.str "go",V.str "go"]) G=some (.lst [V.str "pause",V.str "go",V.str "go"]):=O;generalize az I G (.lst [V.str "pause",V.str "go",V.str "go"])=H2 at n D⊢;have bm:=bD (x/16) (show(0:Int)<3 by decide);obtain⟨z,hz,ha⟩:=iN (zs:=["pause","go","go"]) bm.1 bm.2;refine U rfl (r2 ⟨(show(0:Int)<3 by decide),G,_,_,U rfl ⟨rfl,aO.of D,ha,U rfl ⟨ls rfl,λB m=>?_⟩⟩⟩);have j:=ai (o:=.tup [.str z,.str t.nm]) (ao.refl H2) m;simp only[pv,oe,w_]at hz;rcases hz with rfl|rfl|rfl
   ·exact q B (.pause t true) _ _ (.of (n.trans j)) (aT.of O) (.pause y) (i.same (n.trans j)) trivial λz=>absurd z (ot F)
   all_goals exact q B (.pause t false) _ _ (.of (n.trans j)) (aT.of O) (.go y) (i.same (n.trans j)) trivial λz=>absurd z (ot F)
  refine vj True True (λQ r u=>?_) (λ_ N=>?_) (λ_=>?_)
  ·exact U rfl (r2 ⟨(show(0:Int)<16 by decide),rfl,U rfl (CK (λ_=>r trivial) (λ_=>u trivial))⟩)
  ·refine⟨ls rfl,λG R=>?_⟩;have n:=ai (o:=.lst [V.str "close",V.str "pause",V.str "go",V.str "go"]) (ao.refl I) R;have D:az I G (.lst [V.str "close",V.str "pause",V.str "go",V.str "go"]) G=some (.lst [V.str "close",V.str "pause",V.str "go",V.str "go"]):=O;generalize az I G (.lst [V.str "close",V.str "pause",V.str "go",V.str "go"])=H2 at n D⊢;have bm:=bD (x/16) (show(0:Int)<4 by decide);obtain⟨z,hz,ha⟩:=iN (zs:=["close","pause","go","go"]) bm.1 bm.2;refine U rfl (r2 ⟨(show(0:Int)<4 by decide),G,_,_,U rfl ⟨rfl,aO.of D,ha,U rfl ⟨ls rfl,λB m=>?_⟩⟩⟩);have j:=ai (o:=.tup [.str z,.str t.nm]) (ao.refl H2) m;simp only[pv,oe,w_]at hz;rcases hz with rfl|rfl|rfl|rfl
   ·exact q B (.close t) _ _ (.of (n.trans j)) (aT.of O) (.close y) (i.same (n.trans j)) trivial λz=>absurd z (ot F)
   ·exact q B (.pause t true) _ _ (.of (n.trans j)) (aT.of O) (.pause y) (i.same (n.trans j)) trivial λz=>absurd z (ot F)
   all_goals exact q B (.pause t false) _ _ (.of (n.trans j)) (aT.of O) (.go y) (i.same (n.trans j)) trivial λz=>absurd z (ot F)
  refine vj True True (λQ r u=>?_) (λ_ N=>?_) (λ_=>?_)
  ·exact U rfl (r2 ⟨(show(0:Int)<16 by decide),rfl,U rfl (CK (λ_=>r trivial) (λ_=>u trivial))⟩)
  ·refine U rfl (U rfl ⟨ls rfl,λB m=>?_⟩);have j:=ai (o:=.tup [.str "bar",.str g,.str t.nm]) (ao.refl I) m;exact q B (.bar g t) _ _ (.of j) (aT.of O) (.bar hg y) (i.same j) trivial λz=>absurd z (ot F)
  refine U rfl (U rfl (r2 ⟨⟨by decide,by decide⟩,x/16/7,rfl,λmt ms H2 n hm h3 h4 h5=>⟨ls rfl,λB m=>?_⟩⟩));have j:=ai (o:=.tup [.str "visit",.str g,.ref mt]) (ao.refl H2) m;exact q B (.visit g) _ _ (.of (n.trans j)) (aT.of O) (.visit hg (hm.kp (.of j)) h3 h4 h5) (i.same (n.trans j)) ⟨x/16%7,b7.1,b7.2,aa⟩ λz=>absurd z (ot F)
end
inductive IK(P:RH)(w:World)(K:RC)(a:jl)(vs:List V)(H:Hp)(Q:VK)(E:XK):Prop|mk(M:bG)(Z:ZS)(c:Nat)(dv:Addr)(d:Dd)(xs:List V)(_:vs=[.ref (Z.G .hh),.ref dv])(_:cP P w K a H M Z c)(_:c<=99)(_:(∀g,d=.visit g->∀l∈M.las,l.ins.length<=62))(_:aT K H dv xs)(_:ii K H M d xs)(_:(d.clo=false->∀(r:Addr)(us:List V)(M':bG)(Z':ZS)(H':Hp),eI M d M'->fH H M Z H' M' Z'->cP P w K a H' M' Z' (c+1)->H r=none->H' r=some (.lst us)->M5 K H' M d M' us->Q (.ref r) H'))(_:(d.may=true->∀(z:Str)H',ao H H'->Q (.str z) H'))
section
def Gk(T:Txt K mg a)(y:w.params=a.pm):aP P w K mg base dI 15 a.xY.x a.xY.d ["_law_house","_law_deed_here"] (IK P w K a):=by
 refine T.xY.ok Ai λz A outer s H R Q E f h=>?_
 ·obtain⟨M,Z,c,B,d,C,rfl,t,hc,e,D,F,q,u⟩:=h;refine⟨_,(ag (Jm rfl rfl T.xJ rfl T.AO T.xL rfl T.AQ T.se (λE v S V G=>(LT (i:=2) Ai.nd rfl (by first|exact Or.inl rfl|exact Or.inr rfl) (JI (Y 0) T.aF T.gw.m ((sI (P:=P) (w:=w) T y).mono (by decide)) f T.gw.b .nil G (ac (Y 1) ae)))) (λI=>(ah (ax aB))) (λI=>(ah (ax aB)))) (ah (ax (Y 2)))),?_⟩
  have J:=t.g.house;refine pC J rfl rfl (U rfl ⟨M,Z,c,B,d,C,rfl,t,hc,e,D,F,λj r L N O H' nx st k f l n=>?_,λo H' p=>?_,λo H' p=>?_⟩)
  ·exact aq (U rfl (q j r L N O H' nx st k f l n))
  ·exact .inl ⟨rfl,u o _ H' p⟩
  ·exact .inr ⟨rfl,u o _ H' p⟩
end
inductive LK(P:RH)(w:World)(K:RC)(a:jl)(vs:List V)(H:Hp)(Q:VK)(_E:XK):Prop|mk(M:bG)(Z:ZS)(c:Nat)(g:Str)(_:vs=[.ref (Z.G .hh),.str g])(_:cP P w K a H M Z c)(_:c<=200)(_:Bw g)(_:∀(r:Addr)(us:List V)H',ao H H'->H r=none->H' r=some (.lst us)->cT K H' us (cC M.came g)->Q (.ref r) H')
section
def wI(T:Txt K mg a):aP P w K mg base dI 4 a.fI.x a.fI.d ["self","guest"] (LK P w K a):=by
 refine T.fI.ok wx λC A outer s H N Q E i h=>?_
 ·obtain⟨M,Z,c,g,rfl,D,hc,hg,q⟩:=h;refine⟨_,(ag (aN (pc T.dq (gi T) i (ac (Y 1) ae))) (ah (ax (db (oS K rfl) (by rfl) T.u7 L2.k6 (ac (uQ (cj i) (aI K rfl (Y 0)) (Y 1) (bg ae) ⟨rfl,rfl,rfl,rfl⟩) ae))))),?_⟩
  refine U rfl ⟨g,rfl,hg,λp v=>?_⟩;have f:=D.same v;refine jS f.g.house T.aF T.cR rfl rfl ⟨Z.G .ci,rfl,.inl ⟨_,.inl f.g.cams⟩,U rfl ⟨ls rfl,λj t=>?_⟩⟩;have m:=ai (o:=.lst []) (ao.refl p) t;have y:az p j (.lst []) j=some (.lst []):=O;generalize az p j (.lst [])=z at m y⊢;refine⟨aW Z.cv (.inr g),d0.k (k:=.inr g) (m _ _ f.g.cams),?_⟩;obtain⟨n,b,F,u,I⟩:∃n b,(aW Z.cv (.inr g)).getD (.ref j)=.ref n/\z n=some (.lst b)/\cT K z b (cC M.came g):=by
   rcases f.g.came.find g with⟨e,J⟩|⟨l,L,e,_,h2,h3,h4⟩
   ·exact⟨j,[],by rw[e];rfl,y,by rw[J];exact .nil⟩
   ·exact⟨l,L,by rw[e];rfl,m _ _ h2,h3.kp (.of m)⟩
  rw[F];have B:=v.trans m;exact⟨n,b,rfl,.inl (aO.of u),λr i=>q r b _ (ai B i) (B.free i) O (I.kp (.of (ai (ao.refl _) i)))⟩
end
inductive LA(K:RC)(vs:List V)(H:Hp)(Q:VK)(_E:XK):Prop|mk(f d:Addr)(us ds:List V)(ss:List (Str×Str))(_:vs=[.ref f,.ref d])(_:H f=some (.lst us))(_:H d=some (.lst ds))(_:cT K H us ss)(_:cT K H ds ss)(_:ss.length<=5000)(_:Q (.bl true) H)
section
def Gm(T:Txt K mg a):aP P w K mg base dI 1 a.xZ.x a.xZ.d ["_law_found","_law_due"] (LA K):=by
 refine T.xZ.ok uK λI A outer s H O Q E R h=>?_
 ·obtain⟨f,d,o,ds,C,rfl,m,hd,D,F,S,q⟩:=h;refine⟨_,(ag (aJ (PW.pt (fb (bZ (aM K rfl (au (jh K rfl) (by rfl) T.bh L2.aQ (ac (Y 0) (ac (jB rfl T.u7 L2.k6) ae))) (λ_=>rfl))) (dD (aC As (au (aG K rfl) (by rfl) T.bp L2.aH (ac (Y 0) ae)) (au (aG K rfl) (by rfl) T.bp L2.aH (ac (Y 1) ae)) (aE _))))) (ah (ax fc)) aA) (ag (dw op rfl (c9 rfl T.eD (ac (au (aG K rfl) (by rfl) T.bp L2.aH (ac (Y 1) ae)) ae)) (pF 2 uK.nd) (ag (aJ (PW.pt (fb (bZ (aM K rfl (au (dP K rfl) (by rfl) T.bh L2.aQ (ac (iF K (Y 0) (Y 2)) (ac (jB rfl T.dO L2.bT) ae))) (λ_=>rfl))) (dD (aC As (au (aG K rfl) (by rfl) T.bp L2.aH (ac (iF K (Y 0) (Y 2)) ae)) (au (aG K rfl) (by rfl) T.bp L2.aH (ac (iF K (Y 1) (Y 2)) ae)) (aE _))))) (ah (ax fc)) aA) (ah (dw op rfl (c9 rfl T.eD (ac (au (aG K rfl) (by rfl) T.bp L2.aH (ac (iF K (Y 1) (Y 2)) ae)) ae)) (pF 3 uK.nd) (ah (aJ (PW.pt (fb (bZ (aM K rfl (au (jh K rfl) (by rfl) T.bh L2.aQ (ac (cS K (iF K (Y 0) (Y 2)) (Y 3)) (ac (jB rfl T.Gx L2.vD) ae))) (λ_=>rfl))) (dD (aC As (cS K (iF K (Y 0) (Y 2)) (Y 3)) (cS K (iF K (Y 1) (Y 2)) (Y 3)) (aE _))))) (ah (ax fc)) aA)))))) (ah (ax fc)))),?_⟩
  have J:o.length=C.length:=Paired.length D;have L:ds.length=C.length:=Paired.length F;refine U rfl ⟨_,"list",_,true,rfl,.lst m,fA (by decide+kernel),true,rfl,b0 ?_⟩;refine U rfl ⟨_,o.length,rfl,.inl ⟨o,aO.of m,rfl⟩,U rfl ⟨_,ds.length,rfl,.inl ⟨ds,aO.of hd,rfl⟩,rfl,U rfl ?_⟩⟩;rw[J,L,m3 rfl];refine b0 ?_;refine U rfl ⟨_,ds.length,rfl,.inl ⟨ds,aO.of hd,rfl⟩,U rfl ⟨by exact j2 _,by omega,?_⟩⟩;refine gO (lo:=0) (n:=((ds.length:Nat):Int).toNat) (λi c H'=>H'=H/\(Fk λr e=>c=[some (.ref f),some (.ref d),r,e])) ⟨rfl,_,_,rfl⟩ ?_ ?_
  ·rintro i c H' hi⟨rfl,r,e,rfl⟩;rw[show(0:Int)+(i:Int)=((i:Nat):Int)by lia];rw[pu]at hi;obtain⟨u,b⟩:∃u,o[i]?=some u:=⟨_,hY (by lia)⟩;obtain⟨y,M,s,rfl,p⟩:=Paired.at_ D i u b;obtain⟨v,g,W,rfl,l⟩:=qP F i y M;refine aq (U rfl (U rfl (rX (aO.of m) (ak (k:=i) b) ⟨_,"tuple",_,true,rfl,.inr ⟨_,U rfl ⟨p,rfl⟩⟩,fA (by decide+kernel),true,rfl,b0 ?_⟩)));refine U rfl (U rfl (rX (aO.of m) (ak (k:=i) b) ⟨_,2,rfl,.inr ⟨_,p,rfl⟩,U rfl (U rfl (rX (aO.of hd) (ak (k:=i) g) ⟨_,2,rfl,.inr ⟨_,l,rfl⟩,rfl,U rfl ?_⟩))⟩));rw[m3 rfl];refine b0 (U rfl (U rfl (rX (aO.of hd) (ak (k:=i) g) ⟨_,2,rfl,.inr ⟨_,l,rfl⟩,U rfl ⟨by decide,by decide,?_⟩⟩)));refine gO (lo:=0) (n:=((2:Nat):Int).toNat) (λj c t=>t=H'/\∃e,c=[some (.ref f),some (.ref d),some (.int (i:Nat)),e]) ⟨rfl,_,rfl⟩ ?_ ?_
   ·rintro j c N G⟨rfl,e,rfl⟩;rw[show(0:Int)+(j:Int)=((j:Nat):Int)by lia];rw[pu]at G;obtain⟨z,B⟩:∃z:Str,([.str y.1,.str y.2]:List V)[j]?=some (.str z):=by cases j with|zero=>exact⟨_,rfl⟩|succ j=>cases j with|zero=>exact⟨_,rfl⟩|succ j=>exact absurd G (lh rfl)
    refine aq (U rfl (U rfl (rX (aO.of m) (ak (k:=i) b) (U rfl (rX p (ak (k:=j) B) ⟨_,"str",_,true,rfl,.str _,fA (by decide+kernel),true,rfl,b0 ?_⟩)))));refine U rfl (U rfl (rX (aO.of m) (ak (k:=i) b) (U rfl (rX p (ak (k:=j) B) (U rfl (U rfl (rX (aO.of hd) (ak (k:=i) g) (U rfl (rX l (ak (k:=j) B) ⟨rfl,U rfl ?_⟩)))))))));rw[m3 rfl];exact b0 ⟨rfl,_,rfl⟩
   ·rintro c N⟨rfl,e,rfl⟩;exact⟨rfl,_,_,rfl⟩
  ·rintro c H'⟨rfl,r,e,rfl⟩;exact q
end
def cp(h:H b=some o)(n:H b=none):False:=by rw[h]at n;cases n
def y4(c:H o=some x)(h1:∀d,x≠.tup d)(h2:∀y z,x≠.frz y z)(f:∀b ob,H b=some ob->b≠o->H' b=some ob):Kp H H':=⟨λu d e=>f _ _ e λz=>(by rw[z,c]at e;exact h1 _ (ji e)),λu y⟨g,e⟩=>⟨g,f _ _ e λz=>by rw[z,c]at e;exact h2 _ _ (ji e)⟩⟩
section
variable{P:RH}{w:World}{K:RC}{a:jl}{D H g F C:Hp}{M j:bG}{Z p:ZS}{ns:RN}{A:xX}{dd E:Addr}{c:Nat}{t s:List (bL×V)}{ls B:RI}{I v:List (Str×Nat)}{d:Dd}{f:List V}
def bA.ntup(h:bA P w K a H M Z)(L:gB M Z b):(∀f,H b≠some (.tup f))/\∀x y,H b≠some (.frz x y):=by
 have lst:∀l f,H l=some (.lst f)->(∀N,H l≠some (.tup N))/\∀x y,H l≠some (.frz x y):=λl f e=>by rw[e];exact⟨λ_ z=>(nomatch z),λ_ _ z=>(nomatch z)⟩
 rcases L with⟨r,O,rfl⟩|⟨i,hi,x,k,e⟩|⟨x,k,e⟩
 ·obtain⟨o,q⟩:=m8 P w a Z O;have im:=(h.imm (H':=λb=>if b=Z.G r then none else H b) q λb o e n=>by show(if b=Z.G r then none else H b)=_;rw[ir n];exact e).kp;refine⟨λf e=>?_,λx y e=>?_⟩
  ·have:=im.tp _ _ e;rw[i_ rfl]at this;cases this
  ·obtain⟨_,this⟩:=im.fz _ _ ⟨_,e⟩;rw[i_ rfl]at this;cases this
 ·obtain⟨_,⟨m,q,_⟩,_⟩:=h.tabs i _ (hY hi);obtain⟨l,f,u,J⟩:=q.ex x k;rw[u]at e;cases e;exact lst _ _ J
 ·obtain⟨l,f,u,J⟩:=h.came.ex x k;rw[u]at e;cases e;exact lst _ _ J
def bA.stp(h:bA P w K a H M Z)(st:fH H M Z g j p):Kp H g:=⟨λu f e=>st.fr _ _ e λz=>(h.ntup z).1 _ e,λu o⟨b,e⟩=>⟨b,st.fr _ _ e λz=>(h.ntup z).2 _ _ e⟩⟩
def fH.nf(st:fH H M Z g j p)(e:H b=some o)(n:¬gB M Z b):¬gB j p b:=λz=>(st.fp b z).elim n (cp e)
end
def Ie(K:RC)(H:Hp)(b:List (bL×V))(M:bG):Prop:=∀t∈M.trs,∃s,aW b (.inr t.nm)=some (.ref s)/\aT K H s (t.shuts.map V.str)
def Ie.kp{b:List (bL×V)}{M:bG}(e:Kp H H')(h:Ie K H b M):Ie K H' b M:=λt c=>(h t c).imp λ_ q=>⟨q.1,e.tq q.2⟩
def D4{M:bG}{c i:Nat}{g:Str}{l:cD}{r:Str×Str}{A:List (Str×Str×Str)}(o:nu M c)(io:kd M)(n:M.las[i]?=some l)(h:DC M g l A r):r∈(uu M g).map (·.2)↔iG M g l.nm=true:=by
 rw[lQ o.ln n];rcases h with e|⟨e,t,B,q,_,hh,_⟩
 ·rw[e];refine⟨λ_=>rfl,λ_=>mo.mpr ⟨(l.nm,r.1,r.2),C_.mpr ⟨l,h_ n,by rw[e];rfl⟩,rfl⟩⟩
 ·rw[e];refine⟨λm=>?_,λz=>by cases z⟩;obtain⟨x,C,ex⟩:=mo.mp m;obtain⟨D,f,E⟩:=C_.mp C;obtain⟨p,s,F⟩:=Option.map_eq_some_iff.mp E;have k:=s;unfold eg at s;obtain⟨y,G,I⟩:=Option.map_eq_some_iff.mp s;obtain⟨R,u,J,L⟩:=io D f y (Qn G);have N:p=r:=by rw[<-ex,<-F]
  obtain⟨j,v⟩:=k_.mp B;obtain⟨S,b⟩:=k_.mp u;have O:=o.tuq b v (by rw[J,I,N,q]);rw[O,v]at b;obtain rfl:=ji b;obtain⟨T,d⟩:=k_.mp f;have Q:=o.luq d n (by rw[<-L,hh]);rw[Q,n]at d;obtain rfl:=ji d;rw[e]at k;cases k
def cT.data{b:List V}{c:List (Str×Str)}(h:cT K H b c):IsPs K H b ((c.map λy=>[y.1,y.2]).map qE):=by induction h with|nil=>exact .nil|cons h _ d=>obtain⟨s,rfl,e⟩:=h;exact .cons (.tup e (.cons (.str _) (.cons (.str _) .nil))) d
def De{r:Str×Str}{l:List (Str×Str)}:[r.1,r.2]∈(l.map λy=>[y.1,y.2])↔r∈l:=by
 constructor
 ·intro h;obtain⟨y,c,e⟩:=mo.mp h;injection e with d b;injection b with b _;rw[show r=y from Prod.ext d.symm b.symm];exact c
 ·exactλh=>mo.mpr ⟨r,h,rfl⟩
def Bi{cm:List (Str×List (Str×Str))}{g:Str}{n:Nat}(h:∀x∈cm,x.2.length<=n):(cC cm g).length<=n:=by unfold cC;cases e:cm.find? λx=>decide (x.1=g)with|none=>exact m_ _|some x=>exact h x (Qn e)
def JE{M:bG}{g:Str}{ss:List (Str×Str×Str)}{k:Nat}:(bX M g (ss.take k)).length<=(bX M g ss).length:=(List.Sublist.filterMap _ (P3 k ss)).length_le
def Mu{z:Str}{b:RI}(h:z∉b):nC (.str z) (b.map V.str)=false:=by cases e:nC (.str z) (b.map V.str)with|false=>rfl|true=>unfold nC at e;obtain⟨v,d,e⟩:=QD.mp e;obtain⟨u,c,rfl⟩:=mo.mp d;have e:(u==z)=true:=e;rw[eq_of_beq e]at c;exact absurd c h
def Kr(n:Nat):(List.replicate n false).any id=false:=by induction n with|zero=>rfl|succ n b=>rw[r_,w1,b];rfl
def Gu{M:bG}{g:Str}{b:List (Str×Str×Str)}{n:Str}(h:n∈(cC M.came g++bX M g b).map (·.1)):n∈Bo M g b:=by
 unfold Bo;rw[il]at h;rcases Rz.mp h with q|q
 ·exact tA _ q
 ·refine pa _ ?_;obtain⟨r,c,rfl⟩:=mo.mp q;obtain⟨x,d,e⟩:=C_.mp c
  split at e
  ·cases e
  ·rw[<-ji e];exact mo.mpr ⟨x,d,rfl⟩
inductive LM(P:RH)(w:World)(K:RC)(a:jl)(vs:List V)(H:Hp)(Q:VK)(E:XK):Prop|mk(M:bG)(Z:ZS)(c:Nat)(dv sd bl:Addr)(g:Str)(xs us:List V)(kvs:List (bL×V))(_:vs=[.ref (Z.G .hh),.ref dv,.ref sd,.ref bl])(_:cP P w K a H M Z c)(_:c<=99)(_:(∀l∈M.las,l.ins.length<=62))(_:kd M)(_:aT K H dv xs)(_:ii K H M (.visit g) xs)(_:H sd=some (.dK kvs))(_:Ie K H kvs M)(_:H bl=some (.lst us))(_:cT K H us (cC M.came g))(_:¬gB M Z sd)(_:¬gB M Z bl)(_:∀(r:Addr)(us':List V)(M':bG)(Z':ZS)(H':Hp),eI M (.visit g) M'->(∃ss,Kz g M M' ss)->fH H M Z H' M' Z'->cP P w K a H' M' Z' (c+1)->H r=none->H' r=some (.lst us')->cT K H' us' (cC M'.came g)->¬gB M' Z' r->Q (.ref r) H')
section
def Gq(T:Txt K mg a)(hw:w.params=a.pm):aP P w K mg base dI 15 a.x6.x a.x6.d ["_law_house","_law_deed_here","_law_shuts","_law_been"] (LM P w K a):=by
 refine T.x6.ok jt λeo A outer s H vs Q E hr h=>?_
 ·obtain⟨M,Z,c,dv,sd,bl,g,xs,us,c4,rfl,hZ,hc,bi,da,hT,hD,dc,di,dt,dT,dV,d1,q⟩:=h;refine⟨_,(ag (HE 4 lV [] [7,8,9] [7,8,9] (aj pB) (Hg _ 7 8 9) (cK K rfl (bw (Y 0) T.aF T.eR.m ((u5 (P:=P) (w:=w) T).mono (by decide)) hr T.eR.b .nil bx (ac (cS K (Y 1) af) ae))) (λcl C s₀ H₀ ex=>⟨(gf K rfl rfl (bo (nz lV [] 7) (bo (nz lV [] 8) (bo (nz lV [] 9) gc)))),bY,(bF (ac (Y 8) (ac (Y 9) ae)))⟩) jt.nd) (ag (bf 5 jt.nd (bw (Y 0) T.aF T.gw.m ((sI (P:=P) (w:=w) T hw).mono (by decide)) hr T.gw.b .nil Jw (ac (Y 1) ae))) (ag (uO (i:=6) jt.nd rfl (.inr rfl) (db (oS K rfl) (by rfl) T.u7 L2.k6 (ac (Y 3) ae))) (ag (dw op rfl (cK K rfl (Y 5)) (gf K rfl rfl (bo (pF 7 jt.nd) (bo (pF 8 jt.nd) (bo (pF 9 jt.nd) gc)))) (ah (aJ (aC (Gh K rfl (Ph hr)) (bF (ac (Y 8) (ac (Y 9) ae))) (Y 4) (by with_unfolding_all rfl)) (ag (aJ (aM K rfl (au (nq K rfl rfl) (by rfl) T.Dm L2.qa (ac (wb lV ["_law_shut"] [] [10] (aj pB) (ck 10) (iC K rfl (eC (cj hr) (Y 2) (Y 8) (λ_ _=>rfl))) (λcl C s₀ H₀ ex=>⟨(nz lV ["_law_shut"] 10),bY,(bW (oG K rfl) (Y 10) (wb (ok:=by rfl) ["_law_house","_law_deed_here","_law_shuts","_law_been","_law_stood","_law_found","_law_come_here","_law_layer","_law_trial","_law_arm","_law_shut"] ["_law_one"] [] [11] (relabel _ _) (ck 11) (cK K rfl (Y 6)) (λcl C s₀ H₀ ex=>⟨(nz ["_law_house","_law_deed_here","_law_shuts","_law_been","_law_stood","_law_found","_law_come_here","_law_layer","_law_trial","_law_arm","_law_shut"] ["_law_one"] 11),bY,(cS K (Y 11) af)⟩)) (by with_unfolding_all rfl))⟩)) ae)) (λ_=>rfl)) (ah (ax lM)) aA) (ah (aN (gK K rfl PySem.F.plainAttrs_list PySem.F.slot_list_append PySem.F.type_list_append dG (Y 6) (ac (bF (ac (Y 8) (ac (Y 9) ae))) ae))))) aA))) (ah (ax (Y 6))))))),?_⟩
  have d2:=hD;cases hD with|@visit _ mv ms h1 h2 h5=>
  refine pC hZ.g.house rfl rfl (U rfl (rX hT (ak (k:=1) rfl) ⟨M,Z,c,g,rfl,hZ,h1,λr0 bt H1 s1 ep bu bz=>?_⟩));have d3:(uu M g).length<=4:=mu (PU _ _) hZ.ok.l4;refine⟨r0,rfl,⟨_,aO.of bu⟩,λD hD=>?_⟩;refine jg (K:=K) (a:=r0) (xs:=bt) (λk u H'=>ao H1 H'/\H' D=some (.lst u)/\cT K H' u (((uu M g).take k).map (·.2))) ⟨ai (ao.refl _) hD,O,.nil⟩ (λk u H' _ h=>aO.of (h.1 _ _ bu)) ?_ ?_
  ·rintro k v u H3 hv⟨s3,S,aa⟩;have hk:k<bt.length:=(d_.mp hv).1;obtain⟨⟨nm,t,y⟩,hy,b,rfl,hb⟩:=Paired.at_ bz k v hv;refine⟨b,U rfl ⟨ao.tseq s3 hb,rfl,_,U rfl (aq ⟨_,U rfl (aq ⟨_,U rfl (aq ⟨rfl,jm (bI (U rfl (U rfl ⟨ls rfl,λT1 as=>?_⟩)))⟩)⟩)⟩)⟩⟩;have s4:=ai (o:=.tup [.str t,.str y]) (ao.refl H3) as;have e4:az H3 T1 (.tup [.str t,.str y]) T1=some (.tup [.str t,.str y]):=O;generalize az H3 T1 (.tup [.str t,.str y])=H4 at s4 e4⊢;have a2:=s4 _ _ S;have d4:u.length<=4:=by rw[Paired.length aa,c_];exact mu (List.length_take_le' _ _) d3
   refine⟨a2,by rw[j1];exact rV d4 (lh rfl),lf hk ⟨a0 (s3.trans s4) hD,O,?_⟩⟩;rw[cu hy,il];exact qQ ((aa.kp (.of s4)).kp (.lst a2)) (.cons ⟨T1,rfl,(Kp.lst a2).tq (aT.of e4)⟩ .nil)
  rintro u H2⟨s2,ad,bK⟩;rw[Paired.length bz,ku (f_ _)]at bK;have p:=s1.trans s2;have a3:=hZ.same p;have nD:¬gB M Z D:=hZ.g.foot (s1.free hD);refine aq (pC a3.g.house rfl rfl (U rfl ⟨M,Z,c,dv,.visit g,[.str "visit",.str g,mv],rfl,a3,hc,λ_ e=>(by cases e;exact bi),ao.tseq p hT,d2.kp (.of p),λ_ r d5 M' Z' H3 nx st a5 hr bN ec=>?_,λz=>(nomatch z),λz=>(nomatch z)⟩));obtain⟨ss,ap,hV⟩:=ec g rfl;have b7:H3 bl=some (.lst us):=st.fr _ _ (p _ _ dt) d1;have b8:H3 sd=some (.dK c4):=st.fr _ _ (p _ _ dc) dV;have S:H3 D=some (.lst u):=st.fr _ _ ad nD;have a6:Kp H2 H3:=a3.g.stp st;have aa:=(dT.kp (.of p)).kp a6;have ed:=bK.kp a6;have b9:=(di.kp (.of p)).kp a6;refine aq (U rfl ⟨bl,us,rfl,.inl (aO.of b7),λL hL=>aq ?_⟩);refine U rfl ⟨r,rfl,⟨_,aO.of (ai (ao.refl _) hL _ _ bN)⟩,?_⟩;refine nj (xs:=d5) (λk σ H'=>ao H3 H'/\(∃ws,H' L=some (.lst ws)/\cT K H' ws (cC M.came g++bX M g (ss.take k)))/\(OH λv7 v8 v9=>σ=[some (.ref (Z.G .hh)),some (.ref dv),some (.ref sd),some (.ref bl),some (.ref D),some (.ref r),some (.ref L),v7,v8,v9])) ⟨ai (ao.refl _) hL,⟨us,O,by rw[x_];show cT K _ us (cC M.came g++[]);rw[rr];exact aa.kp (.of (ai (ao.refl _) hL))⟩,_,_,_,rfl⟩ (λk σ H' _ h=>aO.of (h.1 _ _ bN)) ?_ ?_
  ·rintro k v σ H4 hv⟨s4,⟨ws,a7,al⟩,v7,v8,v9,rfl⟩N R B hN;obtain⟨⟨nm,t,y⟩,cc,b,rfl,hb⟩:=Paired.at_ ap k v hv;obtain⟨i,l,hl,en,ci⟩:=hV.ans.at_ k _ cc;obtain rfl:nm=l.nm:=en;have cE:ss.take (k+1)=ss.take k++[(l.nm,t,y)]:=cu cc;have c0:=D4 hZ.ok da hl ci;refine⟨b,U rfl ⟨ao.tseq s4 hb,rfl,_,U rfl (aq ⟨_,U rfl (aq ⟨_,U rfl (aq ⟨rfl,?_⟩)⟩)⟩)⟩⟩;refine U rfl (U rfl ⟨ls rfl,λT1 as=>?_⟩);have s5:=ai (o:=.tup [.str t,.str y]) (ao.refl H4) as;have e5:az H4 T1 (.tup [.str t,.str y]) T1=some (.tup [.str t,.str y]):=O;generalize az H4 T1 (.tup [.str t,.str y])=H5 at s5 e5⊢;have a8:=s5 _ _ a7;have J:=s4.trans s5;have W:=al.kp (.of s5);refine U rfl ⟨D,u,[t,y],((uu M g).map (·.2)).map λy=>[y.1,y.2],rfl,aO.of (J _ _ S),.tup (aT.of e5) (.cons (.str _) (.cons (.str _) .nil)),(ed.kp (.of J)).data,U rfl ?_⟩
   by_cases hs:iG M g l.nm=true
   ·rw[m3 (De (r:=(t,y)).mpr (c0.mpr hs))];exact b0 (hN _ _ ⟨J,⟨ws,a8,by rw[cE,m6 (r:=(l.nm,t,y)) hs,i_ rfl,rr];exact W⟩,_,_,_,rfl⟩)
   rw[nk λz=>hs (c0.mp (De (r:=(t,y)).mp z))];have ba:iG M g l.nm=false:=by cases e:iG M g l.nm with|false=>rfl|true=>exact absurd e hs
   obtain⟨tr,c1,ef,_,_,eh⟩:CW M l _ (t,y):=by
    rcases ci with e|e
    ·rw[lQ hZ.ok.ln hl,e]at ba;cases ba
    ·exact e.2
   obtain rfl:tr.nm=t:=ef;obtain⟨sv,ei,c2⟩:=b9 tr c1;refine bI (U rfl (U rfl (rG (.ref sv) (by rw[<-ei];exact d0.k (k:=.inr tr.nm) (J _ _ b8)) ⟨sv,rfl,⟨_,ao.tseq J c2⟩,λD2 ad=>?_⟩)));have eq:ws.length<=1000:=by have h1:=Bi (g:=g) a5.ok.cm;rw[hV.came,iA]at h1;have h2:=JE (M:=M) (g:=g) (ss:=ss) (k:=k);rw[Paired.length W,iA];lia
   have h8:=(hZ.ok.tr tr c1).s8;refine gt (K:=K) (a:=sv) (xs:=tr.shuts.map V.str) (λj I H'=>ao H5 H'/\H' D2=some (.lst I)/\I=(List.replicate j false).map V.bl) ⟨ai (ao.refl _) ad,O,rfl⟩ (λj I H' _ h=>ao.tseq h.1 (ao.tseq J c2)) ?_ ?_
   ·rintro j v I H6 bb⟨s6,bc,rfl⟩;have hj:j<(tr.shuts.map V.str).length:=(d_.mp bb).1;rw[ig]at bb;obtain⟨n,hn,rfl⟩:=Option.map_eq_some_iff.mp bb;have X:=s6 _ _ a8;refine aq (jm (bI (U rfl (U rfl ⟨L,rfl,⟨_,aO.of X⟩,λD3 S=>?_⟩))));refine jg (K:=K) (a:=L) (xs:=ws) (λm f H'=>ao H6 H'/\H' D3=some (.lst f)/\f=((cC M.came g++bX M g (ss.take k)).take m).map λy=>V.str y.1) ⟨ai (ao.refl _) S,O,rfl⟩ (λm f H' _ h=>aO.of (h.1 _ _ X)) ?_ ?_
    ·rintro m v f H7 c3⟨s7,an,rfl⟩;have hm:m<ws.length:=(d_.mp c3).1;obtain⟨z,hz,s',rfl,ej⟩:=Paired.at_ (W.kp (.of s6)) m v c3;have er:=PP m (cC M.came g++bX M g (ss.take k));refine aq (jm (bI (U rfl (rX (ao.tseq s7 ej) (ak (k:=0) rfl) ⟨an,by rw[c_,j1];lia,lf hm ⟨a0 s7 S,O,by rw[cu hz,il];rfl⟩⟩))))
    ·rintro f H7⟨s7,an,ea⟩;rw[Paired.length W,ku (f_ _)]at ea;have eb:f=((cC M.came g++bX M g (ss.take k)).map (·.1)).map V.str:=by rw[ea,t_];rfl
     rw[eb]at an;have ek:n∉(cC M.came g++bX M g (ss.take k)).map (·.1):=λz=>eh n (h_ hn) (Gu z);rw[c_]at hj;refine⟨D3,U rfl ⟨.inl (aO.of an),rfl,mS _,s7 _ _ bc,by rw[c_,D_,j1];lia,lf (by rw[c_];exact hj) ⟨a0 (s6.trans s7) ad,O,?_⟩⟩⟩;show _++[V.bl (nC _ _)]=_;rw[Mu ek,QW,il];rfl
   ·rintro I H6⟨s6,bc,rfl⟩;refine⟨D2,U rfl ⟨aO.of bc,U rfl ?_⟩⟩;rw[Kr];have X:=s6 _ _ a8;refine b0 (Fl (U rfl ⟨.inl ⟨rfl,_,aO.of X⟩,U rfl (U rfl ⟨ls rfl,λT2 el=>?_⟩)⟩));have s7:=ai (o:=.tup [.str tr.nm,.str y]) (ao.refl H6) el;have e7:az H6 T2 (.tup [.str tr.nm,.str y]) T2=some (.tup [.str tr.nm,.str y]):=O;generalize az H6 T2 (.tup [.str tr.nm,.str y])=H7 at s7 e7⊢;have bd:=s7 _ _ X;refine rA bd (by rw[j1];omega) (hN _ _ ⟨a0 (J.trans (s6.trans s7)) hL,⟨_,O,?_⟩,_,_,_,rfl⟩);rw[cE,m6 (r:=(l.nm,tr.nm,y)) ba,ir (by decide),<-G_];exact qQ ((W.kp (.of (s6.trans s7))).kp (.lst bd)) (.cons ⟨T2,rfl,(Kp.lst bd).tq (aT.of e7)⟩ .nil)
  ·rintro σ H4⟨s4,⟨ws,a7,al⟩,v7,v8,v9,rfl⟩;rw[Paired.length ap,ku (f_ _),<-hV.came]at al;refine U rfl (q L ws M' Z' H4 nx ⟨ss,hV⟩ (((fH.of p).trans st).trans (fH.of s4)) (a5.same s4) (p.free ?_) a7 al (a5.g.foot hL));exact st.dm _ hL
end
section
variable{ns:RN}{M a:bG}{d:Dd}
def Dd.na(h:d.adds=false):u9 M d=gn M/\sy M d=fV M:=by cases d<;>first|exact⟨rfl,rfl⟩|cases h
def nX.keep(h:nX ns M)(b:a.p=M.p)(f:a.salt=M.salt)(c:a.las.map (λl=>(l.nm,l.sl))=M.las.map λl=>(l.nm,l.sl))(e:fV a=fV M):nX ns a/\a.p=M.p/\a.salt=M.salt/\gn a=gn M/\fV a=fV M:=by
 have a1:∀N:bG,gn N=(N.las.map λl=>(l.nm,l.sl)).map Prod.fst:=λN=>by rw[t_];rfl
 have g:a.las.length=M.las.length:=by have:=tl List.length c;rw[c_,c_]at this;exact this
 refine⟨⟨λi l k=>?_,λj t m=>?_,by rw[g,b];exact h.lp,by rw[b];exact h.pr⟩,b,f,by rw[a1,a1,c],e⟩
 ·have q:(M.las.map λl=>(l.nm,l.sl))[i]?=some (l.nm,l.sl):=by rw[<-c,ig,k];rfl
  rw[ig]at q;obtain⟨n,h0,q⟩:=Option.map_eq_some_iff.mp q;rw[<-(QU q).1,<-(QU q).2,b];exact h.ln i n h0
 ·have q:(fV M)[j]?=some (t.nm,t.arms.length):=by rw[<-e];unfold fV;rw[ig,m];rfl
  unfold fV at q;rw[ig]at q;obtain⟨o,h0,q⟩:=Option.map_eq_some_iff.mp q;rw[<-(QU q).1];exact h.tn j o h0
def eI.nx(h:nX ns M)(n:eI M d a)(o:d.adds=true->KC ns M d):nX ns a/\a.p=M.p/\a.salt=M.salt/\gn a=u9 M d/\fV a=sy M d:=by
 cases n with|@layer nm sl=>
  obtain⟨p1,p2,p3⟩:=o rfl;refine⟨⟨λi l b=>?_,h.tn,?_,h.pr⟩,rfl,rfl,il,rfl⟩
  ·rcases Qj i M.las.length with z|z
   ·exact h.ln i l (by rw[<-b];exact(q_ z).symm)
   ·have b:(M.las++[⟨nm,sl,AS.new,[]⟩])[i]?=some l:=b;rw[sg z]at b;obtain⟨g,c⟩:=d_.mp b;have k:i=M.las.length:=by have:i-M.las.length<1:=g;lia
    subst k;simp only[Q7,List.getElem_cons_zero]at c;subst c;exact⟨p1,p2⟩
  ·show(M.las++[_]).length<=M.p+1;rw[iA];exact p3|@trial x=>
  have p1:=o rfl;refine⟨⟨h.ln,λj t e=>?_,h.lp,h.pr⟩,rfl,rfl,rfl,il⟩;rcases Qj j M.trs.length with z|z
  ·exact h.tn j t (by rw[<-e];exact(q_ z).symm)
  ·have e:(M.trs++[x])[j]?=some t:=e;rw[sg z]at e;obtain⟨g,c⟩:=d_.mp e;have k:j=M.trs.length:=by have:j-M.trs.length<1:=g;lia
   subst k;simp only[Q7,List.getElem_cons_zero]at c;subst c;exact p1|share b hh hn=>exact h.keep rfl rfl (d8 b _ rfl) rfl|deal b hh hn=>exact h.keep rfl rfl (d8 b _ rfl) rfl|hold b=>exact h.keep rfl rfl (d8 b _ rfl) rfl|pause f=>exact h.keep rfl rfl rfl (d8 f _ rfl)|close f b hh=>exact h.keep rfl rfl (d8 b _ rfl) (d8 f _ rfl)|bar f b hh=>exact h.keep rfl rfl (d8 b _ rfl) (d8 f _ rfl)|visit v=>
  refine h.keep v.p v.salt (zz λi=>?_) (by unfold fV;rw[v.trs]);rw[ig,ig]
  by_cases hi:i<M.las.length
  ·obtain⟨m,h1,_⟩:=v.las i _ (hY hi);rw[h1,hY hi];rfl
  ·rw[o0 (by have:=v.len;lia),o0 (by exact PK hi)]
end
def Sf(M:bG)(Z:ZS)(A:xX)(b:Addr):Prop:=¬gB M Z b/\b≠A.L/\b≠A.T
def KJ(K:RC)(H:Hp)(M:bG)(Z:ZS)(A:xX)(bk:List (bL×V))(gs:RI):Prop:=∀g∈gs,∃l b,aW bk (.inr g)=some (.ref l)/\H l=some (.lst b)/\cT K H b (cC M.came g)/\Sf M Z A l
structure md(P:RH)(w:World)(K:RC)(a:jl)(H0 H:Hp)(ns:RN)(M:bG)(Z:ZS)(A:xX)(sd bd:Addr)(c e:Nat)(sk bk:List (bL×V))(gs:RI)(ls:RI)(ts:List (Str×Nat)):Prop where
 z:cP P w K a H M Z c
 pl:qd K H M.p M.salt ls ts A
 pn:nX ns M
 io:kd M
 gu:∀l∈M.las,∀x∈l.ins,x.1∈gs
 dk:H sd=some (.dK sk)sh:Ie K H sk M
 kl:sk.length<=e
 bk_:H bd=some (.dK bk)bl:bk.length<=7+c
 bn:KJ K H M Z A bk gs
 ne:sd≠bd
 f1:¬gB M Z A.pl
 f2:¬gB M Z A.L
 f3:¬gB M Z A.T
 f4:Sf M Z A sd
 f5:Sf M Z A bd
 bs:∀b o,H0 b=some o->H b=some o/\Sf M Z A b/\b≠sd/\b≠bd
theorem KJ.kp{M:bG}{Z:ZS}{A:xX}{bk:List (bL×V)}{gs:RI}(h:KJ K H M Z A bk gs)(kp:Kp H H')(d:∀b c,H b=some (.lst c)->Sf M Z A b->H' b=some (.lst c)):KJ K H' M Z A bk gs:=λg hg=>(h g hg).imp λ_ q=>q.imp λ_ q=>⟨q.1,d _ _ q.2.1 q.2.2.2,q.2.2.1.kp kp,q.2.2.2⟩
section
variable{P:RH}{w:World}{K:RC}{a:jl}{f H t F C:Hp}{M D:bG}{Z E:ZS}{ns:RN}{A:xX}{n i B:Addr}{c e:Nat}{j bk:List (bL×V)}{gs:RI}{ls v:RI}{r u:List (Str×Nat)}{d:Dd}
theorem md.same(h:md P w K a f H ns M Z A n i c e j bk gs ls r)(s:ao H t):md P w K a f t ns M Z A n i c e j bk gs ls r:={h with z:=h.z.same s,pl:=h.pl.same s,dk:=s _ _ h.dk,sh:=h.sh.kp (.of s),bk_:=s _ _ h.bk_,bn:=h.bn.kp (.of s) λb g e _=>s _ _ e,bs:=λb o e=>⟨s _ _ (h.bs b o e).1,(h.bs b o e).2⟩}
theorem md.mono{b g:Nat}(h:md P w K a f H ns M Z A n i c e j bk gs ls r)(l:c<=b)(o:e<=g):md P w K a f H ns M Z A n i b g j bk gs ls r:={h with z:=h.z.mono l,kl:=mu h.kl o,bl:=mu h.bl (Nat.add_le_add_left l 7)}
def md.dr(h:md P w K a f H ns M Z A n i c e j bk gs (gn M) (fV M))(sq:aO K f B (ns.map V.int))(l:ns.length<=63):xg K H B ns M A c:=⟨ao.seq (λb o e=>(h.bs b o e).1) sq,l,h.pl,h.z.ok,h.pn,λt g=>ao.seq (λb o e=>g _ _ (h.bs b o e).1 (h.bs b o e).2.1.2.1) sq⟩
def md.chg(h:md P w K a f H ns M Z A n i c e j bk gs ls r)(l:OZ A H t)(x:qd K t M.p M.salt v u A):md P w K a f t ns M Z A n i c e j bk gs v u:=by
 obtain⟨o,m,kp,k⟩:=l;have q:¬gB M Z o/\∀b,Sf M Z A b->b≠o:=by
  rcases m with rfl|rfl
  ·exact⟨h.f2,λb q=>q.2.1⟩
  ·exact⟨h.f3,λb q=>q.2.2⟩
 exact{h with z:={h.z with g:=h.z.g.out q.1 kp k},pl:=x,dk:=k _ _ h.dk (q.2 _ h.f4),sh:=h.sh.kp kp,bk_:=k _ _ h.bk_ (q.2 _ h.f5),bn:=h.bn.kp kp λb y e s=>k _ _ e (q.2 _ s),bs:=λb o e=>⟨k _ _ (h.bs b o e).1 (q.2 _ (h.bs b o e).2.1),(h.bs b o e).2⟩}
def md.few(h:md P w K a f H ns M Z A n i c e j bk gs ls r)(hg:gs.length=7):∀l∈M.las,l.ins.length<=62:=λl b=>by
 have:=Dk (h.z.ok.la l b).nd λx g=>by obtain⟨y,k,rfl⟩:=mo.mp g;exact h.gu l b y k
 rw[c_]at this;lia
end
def eI.insS{M o:bG}{d:Dd}(n:eI M d o):∀f∈o.las,∀x∈f.ins,(∃l∈M.las,x∈l.ins)\/d=.visit x.1:=by
 have of:∀{las:List cD},(∀y∈las,y.ins=[]\/∃l∈M.las,y.nm=l.nm/\∀x∈y.ins,x∈l.ins)->∀f∈las,∀x∈f.ins,(∃l∈M.las,x∈l.ins)\/d=.visit x.1:=λh f c x b=>by
  rcases h f c with e|⟨l,m,_,p⟩
  ·rw[e]at b;cases b
  ·exact .inl ⟨l,m,p x b⟩
 cases n with|layer=>
  intro f c x b;rcases Rz.mp c with z|z
  ·exact .inl ⟨f,z,b⟩
  ·rw[List.mem_singleton.mp z]at b;cases b|trial=>exactλf c x b=>.inl ⟨f,c,b⟩|share g=>exact of (ip g rfl λ_ b=>eM b)|deal g=>exact of (ip g rfl λ_ b=>eM b)|hold g=>exact of (ip g rfl λ_ b=>b)|pause=>exactλf c x b=>.inl ⟨f,c,b⟩|close r g=>exact of (ip g rfl λ_ b=>eM b)|bar r g=>exact of (ip g rfl λ_ b=>eM b)|visit v=>
  intro f c x b;obtain⟨i,hi⟩:=k_.mp c;have j:=(d_.mp hi).1;rw[v.len]at j;obtain⟨k,h1,q⟩:=v.las i _ (hY j);rw[hi]at h1;obtain rfl:=ji h1;rcases q with rfl|⟨_,t,y,rfl⟩
  ·exact .inl ⟨_,C1 j,b⟩
  ·rcases Rz.mp b with z|z
   ·exact .inl ⟨_,C1 j,z⟩
   ·rw[List.mem_singleton.mp z];exact .inr rfl
section
variable{P:RH}{w:World}{K:RC}{a:jl}{C H J i G:Hp}{M f:bG}{Z B:ZS}{ns:RN}{A:xX}{p j I:Addr}{c e:Nat}{u bk:List (bL×V)}{gs:RI}{ls F:RI}{D E:List (Str×Nat)}{d:Dd}
def md.put(h:md P w K a C H ns M Z A p j c e u bk gs ls D){nm:Str}{s:Addr}(v:nm∉M.trs.map et.nm):md P w K a C (az H p (.dK (c7 u (.inr nm) (.ref s)))) ns M Z A p j c (e+1) (c7 u (.inr nm) (.ref s)) bk gs ls D:=by
 have k:∀b o,H b=some o->b≠p->az H p (.dK (c7 u (.inr nm) (.ref s))) b=some o:=bV;have kp:Kp H (az H p (.dK (c7 u (.inr nm) (.ref s)))):=y4 h.dk (λ_ z=>(nomatch z)) (λ_ _ z=>(nomatch z)) k;have m:∀{b q},H b=some (.lst q)->b≠p:=λe z=>by rw[z,h.dk]at e;cases e
 obtain⟨x,l,n⟩:=h.pl.T;exact{h with
  z:={h.z with g:=h.z.g.out h.f4.1 kp k}
  pl:=⟨k _ _ h.pl.pl (m h.pl.pl),k _ _ h.pl.L (m h.pl.L),⟨x,k _ _ l (m l),DB.kp kp n⟩,h.pl.n1,h.pl.n2,h.pl.n3⟩
  dk:=O
  sh:=λt r=>by obtain⟨y,N,Q⟩:=h.sh t r;refine⟨y,?_,kp.tq Q⟩;rw[jn,ir λz=>v (by rw[<-ro z];exact mo.mpr ⟨t,r,rfl⟩)];exact N
  kl:=mu (fK _ _ _) (tx h.kl)
  bk_:=k _ _ h.bk_ (o_ h.ne)
  bn:=h.bn.kp kp λb q e _=>k _ _ e (m e)
  bs:=λb o e=>⟨k _ _ (h.bs b o e).1 (h.bs b o e).2.2.1,(h.bs b o e).2⟩}
def md.fin(h:md P w K a C H ns M Z A p j c e u bk gs (u9 M d) (sy M d))(n:eI M d f)(N:∀g,d≠.visit g)(st:fH H M Z i f B)(W:cP P w K a i f B (c+1))(X:d.adds=true->KC ns M d)(hs:∀x,d=.trial x->∃s,aW u (.inr x.nm)=some (.ref s)/\aT K H s (x.shuts.map V.str)):md P w K a C i ns f B A p j (c+1) e u bk gs (gn f) (fV f):=by have kp:=h.z.g.stp st;obtain⟨p1,p2,p3,p4,p5⟩:=n.nx h.pn X;obtain⟨O,r,Q⟩:=h.pl.T;have k:∀{b o},H b=some o->Sf M Z A b->i b=some o/\Sf f B A b:=λS s=>⟨st.fr _ _ S s.1,st.nf S s.1,s.2⟩;exact{
  z:=W
  pl:=by rw[p2,p3,p4,p5];exact⟨st.fr _ _ h.pl.pl h.f1,st.fr _ _ h.pl.L h.f2,⟨O,st.fr _ _ r h.f3,DB.kp kp Q⟩,h.pl.n1,h.pl.n2,h.pl.n3⟩
  pn:=p1
  io:=h.io.next n λg z=>absurd z (N g)
  gu:=λl Y x hx=>(n.insS l Y x hx).elim (λ⟨l0,m,q⟩=>h.gu l0 m x q) λq=>absurd q (N _)
  dk:=(k h.dk h.f4).1
  sh:=λt ht=>by
   rcases n.shs t ht with z|⟨v,mv,R,y⟩
   ·exact(hs t z).imp λ_ q=>⟨q.1,kp.tq q.2⟩
   ·rw[R,y];exact(h.sh v mv).imp λ_ q=>⟨q.1,kp.tq q.2⟩
  kl:=h.kl
  bk_:=(k h.bk_ h.f5).1
  bl:=y_ h.bl
  bn:=λg hg=>by obtain⟨l,O,R,y,e3,U⟩:=h.bn g hg;exact⟨l,O,R,(k y U).1,by rw[n.cam N];exact e3.kp kp,(k y U).2⟩
  ne:=h.ne
  f1:=st.nf h.pl.pl h.f1
  f2:=st.nf h.pl.L h.f2
  f3:=st.nf r h.f3
  f4:=(k h.dk h.f4).2
  f5:=(k h.bk_ h.f5).2
  bs:=λb o e=>by obtain⟨b1,b2,b3⟩:=h.bs b o e;exact⟨(k b1 b2).1,(k b1 b2).2,b3⟩}
def md.not(h:md P w K a C H ns M Z A p j c e u bk gs (u9 M d) (sy M d))(hd:d.adds=false)(s:ao H i):md P w K a C i ns M Z A p j (c+1) e u bk gs (gn M) (fV M):=by obtain⟨b,g⟩:=Dd.na (M:=M) hd;rw[b,g]at h;exact(h.same s).mono (rk c) (f_ _)
def md.vis(h:md P w K a C H ns M Z A p j c e u bk gs (gn M) (fV M)){g:Str}{ss:List (Str×Str×Str)}{r:Addr}{R:List V}(n:eI M (.visit g) f)(hV:Kz g M f ss)(hg:g∈gs)(st:fH H M Z i f B)(hZ:cP P w K a i f B (c+1))(hr:H r=none)(W:i r=some (.lst R))(hw:cT K i R (cC f.came g))(nf:¬gB f B r):md P w K a C (az i j (.dK (c7 bk (.inr g) (.ref r)))) ns f B A p j (c+1) e u (c7 bk (.inr g) (.ref r)) gs (gn f) (fV f):=by
 have aa:=h.z.g.stp st;obtain⟨p1,p2,p3,p4,p5⟩:=n.nx h.pn λz=>(nomatch z);obtain⟨us,N,ad⟩:=h.pl.T;have k:∀{b o},H b=some o->Sf M Z A b->i b=some o/\Sf f B A b:=λhb s=>⟨st.fr _ _ hb s.1,st.nf hb s.1,s.2⟩;have U:=(k h.bk_ h.f5).1;have Q:∀b o,i b=some o->b≠j->az i j (.dK (c7 bk (.inr g) (.ref r))) b=some o:=bV;have S:Kp i (az i j (.dK (c7 bk (.inr g) (.ref r)))):=y4 U (λ_ z=>(nomatch z)) (λ_ _ z=>(nomatch z)) Q;have kp:=aa.trans S;have X:∀{b xs},i b=some (.lst xs)->b≠j:=λe z=>by rw[z,U]at e;cases e
 exact{
  z:={hZ with g:=hZ.g.out (k h.bk_ h.f5).2.1 S Q}
  pl:=by rw[p2,p3,p4,p5];exact⟨Q _ _ (st.fr _ _ h.pl.pl h.f1) (X (st.fr _ _ h.pl.pl h.f1)),Q _ _ (st.fr _ _ h.pl.L h.f2) (X (st.fr _ _ h.pl.L h.f2)),⟨us,Q _ _ (st.fr _ _ N h.f3) (X (st.fr _ _ N h.f3)),DB.kp kp ad⟩,h.pl.n1,h.pl.n2,h.pl.n3⟩
  pn:=p1
  io:=hV.ins h.io
  gu:=λl hl x hx=>(n.insS l hl x hx).elim (λ⟨l0,m,q⟩=>h.gu l0 m x q) λq=>by obtain rfl:=Dd.visit.inj q;exact hg
  dk:=Q _ _ (k h.dk h.f4).1 h.ne
  sh:=λt ht=>by
   rcases n.shs t ht with z|⟨v,mv,e1,Y⟩
   ·cases z
   ·rw[e1,Y];exact(h.sh v mv).imp λ_ q=>⟨q.1,kp.tq q.2⟩
  kl:=h.kl
  bk_:=O
  bl:=mu (fK _ _ _) (tx h.bl)
  bn:=λg' al=>by
   by_cases z:g'=g
   ·subst z;exact⟨r,R,by rw[jn,i_ rfl],Q _ _ W (X W),hw.kp S,nf,λz=>cp h.pl.L (z▸hr),λz=>cp N (z▸hr)⟩
   ·obtain⟨l,us,e1,Y,e3,e4⟩:=h.bn g' al;exact⟨l,us,by rw[jn,ir λy=>z (ro y)];exact e1,Q _ _ (k Y e4).1 (X (k Y e4).1),by rw[hV.oth g' z];exact e3.kp kp,(k Y e4).2⟩
  ne:=h.ne
  f1:=st.nf h.pl.pl h.f1
  f2:=st.nf h.pl.L h.f2
  f3:=st.nf N h.f3
  f4:=(k h.dk h.f4).2
  f5:=(k h.bk_ h.f5).2
  bs:=λb o e=>by obtain⟨b1,b2,b3⟩:=h.bs b o e;exact⟨Q _ _ (k b1 b2).1 b3.2,(k b1 b2).2,b3⟩}
end
def CC(p:Nat)(sa:Int):bG:=⟨p,sa,[],[],[]⟩
def A6(h ln tn b dl dx:Addr):ZS:=⟨λr=>match r with|.hh=>h|.ln=>ln|.tn=>tn|.ci=>b|_=>dl,λ_=>dx,[],[],λ_=>[],λ_=>[],λ_=>[],λ_=>dx,λ_=>.non,λ_=>dx⟩
section
variable{P:RH}{w:World}{K:RC}{a:jl}{d f H:Hp}{p:Nat}{sa:Int}{h ln tn c dl dx:Addr}
def J9(e:2<=p/\p<=997):nu (CC p sa) 0:=⟨e,.nil,.nil,λl g=>(nomatch g),λt b=>(nomatch b),λx i=>(nomatch i),m_ _,m_ _,m_ _,λt b=>(nomatch b)⟩
def G9(hh:H h=some (.ins a.bu dx [("own_prime",.int p),("own_salt",.int sa),("layer_named",.ref ln),("trial_named",.ref tn),("came_into",.ref c),("deeds",.ref dl)]))(n:H ln=some (.dK []))(s:H tn=some (.dK []))(u:H c=some (.dK []))(v:H dl=some (.lst []))(n1:ln≠tn)(n2:ln≠c)(n3:tn≠c):bA P w K a H (CC p sa) (A6 h ln tn c dl dx):=by
 have at_:∀r o,cont P w a (CC p sa) (A6 h ln tn c dl dx) r=some o->H ((A6 h ln tn c dl dx).G r)=some o:=λr o e=>by cases r<;>first|(obtain rfl:=ji e;assumption)|cases e
 refine⟨λr j o k e b q=>?_,at_,λi l g=>(nomatch g),λi t m=>(nomatch m),λi l g=>(nomatch g),.nil⟩;have x:=at_ r o e
 have y:=at_ j k b
 rw[q,y]at x;cases r<;>cases j<;>first|rfl|(cases e;done)|(cases b;done)|exact absurd q n1|exact absurd q n2|exact absurd q n3|exact absurd q.symm n1|exact absurd q.symm n2|exact absurd q.symm n3|(cases e;cases b;cases x;done)
def Hl(g:gB (CC p sa) (A6 h ln tn c dl dx) b):b=h\/b=ln\/b=tn\/b=c\/b=dl:=by
 rcases g with⟨r,j,e⟩|⟨i,hi,_⟩|⟨x,k,_⟩
 ·cases r
  ·exact .inl e
  ·exact .inr (.inl e)
  ·exact .inr (.inr (.inl e))
  ·exact .inr (.inr (.inr (.inl e)))
  ·exact .inr (.inr (.inr (.inr e)))
  all_goals cases j
 ·cases hi
 ·cases k
end
def ii.kv{M:bG}{d:Dd}{b:List V}(h:ii K H M d b):(∃g m,d=.visit g/\b=[.str "visit",.str g,m])\/∃k r,b=.str k::r/\k≠"visit"/\∀g,d≠.visit g:=by cases h with|visit=>exact .inl ⟨_,_,rfl,rfl⟩|_=>exact .inr ⟨_,_,rfl,by decide+kernel,λ_ z=>(nomatch z)⟩
inductive MW(P:RH)(w:World)(K:RC)(a:jl)(H0:Hp)(ns:RN)(A:xX)(sd bd:Addr)(sk:List (bL×V))(gs:RI)(c e:Nat)(H:Hp)(M:bG)(Z:ZS)(bk:List (bL×V))(dv:Addr):Prop|mk(d:Dd)(xs:List V)(L:md P w K a H0 H ns M Z A sd bd c e sk bk gs (u9 M d) (sy M d))(T:aT K H dv xs)(D:ii K H M d xs)(pd:d.adds=true->KC ns M d)(gv:∀g,d=.visit g->g∈gs)(ts:∀x,d=.trial x->∃s,aW sk (.inr x.nm)=some (.ref s)/\aT K H s (x.shuts.map V.str)):MW P w K a H0 ns A sd bd sk gs c e H M Z bk dv
section
variable{P:RH}{w:World}{K:RC}{a:jl}{i n H p:Hp}{M:bG}{Z:ZS}{ns:RN}{A:xX}{j d:Addr}{c e:Nat}{f bk:List (bL×V)}{gs:RI}{ls:RI}{l:List (Str×Nat)}
def md.grow(h:md P w K a i H ns M Z A j d c e f bk gs ls l){b:Addr}{o:HO}(r:H b=none):md P w K a (az i b o) (az H b o) ns M Z A j d c e f bk gs ls l:=by
 obtain⟨t,m,_⟩:=h.pl.T;have q:=h.same (ai (o:=o) (ao.refl H) r);refine{q with bs:=λk s e=>?_}
 by_cases z:k=b
 ·rw[z,O]at e;rw[z,<-ji e];exact⟨O,⟨h.z.g.foot r,λy=>cp h.pl.L (y▸r),λy=>cp m (y▸r)⟩,λy=>cp h.dk (y▸r),λy=>cp h.bk_ (y▸r)⟩
 ·rw[am z]at e;exact q.bs k s e
def md.down(h:md P w K a n H ns M Z A j d c e f bk gs ls l)(s:ao i n):md P w K a i H ns M Z A j d c e f bk gs ls l:={h with bs:=λb o e=>h.bs b o (s b o e)}
end
def two_at{b c:Addr}{k:Nat}{v:V}(h:[V.ref b,.ref c][k]?=some v):k<2/\∃d,v=.ref d:=by match k,h with|0,h=>exact⟨by decide,b,(ji h).symm⟩|1,h=>exact⟨by decide,c,(ji h).symm⟩
def two_snd{d b c:Addr}{k:Nat}(h:[V.ref d,.ref b][k+1]?=some (.ref c)):k=0/\c=b:=by match k,h with|0,h=>exact⟨rfl,(V.ref.inj (ji h)).symm⟩
inductive JM(P:RH)(w:World)(K:RC)(a:jl)(H0:Hp)(ns:RN)(A:xX)(sd bd sc gl h:Addr)(gs:RI)(i:Nat)(σ:St)(H':Hp):Prop|mk(M:bG)(Z:ZS)(sk bk:List (bL×V))(v6 v7 v8 v9 v10 v11 v12:Option V)(L:md P w K a H0 H' ns M Z A sd bd (2*i) i sk bk gs (gn M) (fV M))(e:Z.G .hh=h)(s:σ=[some (.ref sc),some (.ref A.pl),some (.ref h),some (.ref gl),some (.ref sd),some (.ref bd),v6,v7,v8,v9,v10,v11,v12]):JM P w K a H0 ns A sd bd sc gl h gs i σ H'
inductive JN(P:RH)(w:World)(K:RC)(a:jl)(H0:Hp)(ns:RN)(A:xX)(sd bd sc gl ho ol dv mv mt:Addr)(gs:RI)(sk:List (bL×V))(g:Str)(i k:Nat)(σ:St)(H':Hp):Prop|mk(M:bG)(Z:ZS)(bk:List (bL×V))(v6 v10 v11 v12:Option V)(e:Z.G .hh=ho)(h1:aT K H' mv [.str "visit",.str g,.ref mt])(h2:∀M,ii K H' M (.visit g) [.str "visit",.str g,.ref mt])(h3:∀ov,[V.ref dv,.ref mv][k]?=some (.ref ov)->MW P w K a H0 ns A sd bd sk gs (2*i+k) (i+1) H' M Z bk ov)(h4:k=2->md P w K a H0 H' ns M Z A sd bd (2*i+2) (i+1) sk bk gs (gn M) (fV M))(h5:H' ol=some (.lst [.ref dv,.ref mv]))(s:σ=[some (.ref sc),some (.ref A.pl),some (.ref ho),some (.ref gl),some (.ref sd),some (.ref bd),v6,some (.int (0+(i:Int))),some (.ref dv),some (.ref mv),v10,v11,v12]):JN P w K a H0 ns A sd bd sc gl ho ol dv mv mt gs sk g i k σ H'
def MN(J:St->Hp->Prop)(h1:∀b H,J b H->u D b H)(h2:∀(N:St->Hp->Prop)(R:VK)(B C:St->Hp->Prop),(∀b H,J b H->N b H)->t ⟨N,R,B,C⟩ b H):Fw t u D b H:=h2 (u D) D.rt D.bk D.ct h1
def MP{t:TS}{N:St->Hp->Prop}{R:VK}{B C:St->Hp->Prop}{b:St}(h:∀(R:VK)(B C:St->Hp->Prop),t ⟨N,R,B,C⟩ b H):t ⟨N,R,B,C⟩ b H:=h R B C
def zG.pr(h:zG p)(i:Nat)(hi:2+(i:Int)<(p:Int)):(p:Int)%(2+(i:Int))≠0:=λz=>by have h1:=(by decide:∀p∈[2,3,5,7,11,13,17,37,61],∀i,i<61->2+i<p->p%(2+i)≠0) p h i (by have:=h.le;lia) (by lia);have e:(((p%(2+i):Nat)):Int)=(p:Int)%((2+i:Nat):Int):=Int.natCast_emod _ _;rw[show(((2+i:Nat)):Int)=2+(i:Int)by exact rfl,z]at e;lia
def ii.kt{M:bG}{d:Dd}{b:List V}(h:ii K H M d b):(∃x ar c sh,d=.trial x/\b=[.str "trial",.str x.nm,.str x.home,.ref ar,.ref c,.ref sh]/\aT K H sh (x.shuts.map V.str)/\x.nm∉M.trs.map et.nm)\/∃k r,b=.str k::r/\k≠"trial"/\∀x,d≠.trial x:=by cases h with|trial h1 h2 h3 h4 h5 h6=>exact .inl ⟨_,_,_,_,rfl,rfl,by assumption,h2⟩|_=>exact .inr ⟨_,_,rfl,by decide+kernel,λ_ z=>(nomatch z)⟩
section
def Mb(T:Txt K mg a)(hw:w.params=a.pm):aP P w K mg base dI 16 a.law.x a.law.d ["_law_script"] (FG K):=by
 refine T.law.ok f8 λhf A outer s H vs Q E D h=>?_
 ·obtain⟨sc,ns,rfl,hS,hl,q⟩:=h;refine⟨_,(ag (bf 1 f8.nd (pc T.x4 (Gn T) D (ac (Y 0) ae))) (ag (bf 2 f8.nd (t7 T.GF ((tO (P:=P) (w:=w) T).mono (by decide)) D rfl T.JR T.dZ.b .nil bx (ac (iF K (Y 1) af) (ac (iF K (Y 1) af) ae)))) (ag (HE 3 Il [] [7] [7] (aj C7) (ck 7) (c9 rfl T.eD (ac af ae)) (λcl C s₀ H₀ ex=>⟨(nz Il [] 7),bY,(pc T.oU (xu T) D (ac (Y 7) (ac (pc T.dW (cG T) D (ac (Y 0) (ac af (ac af ae)))) ae)))⟩) f8.nd) (ag (bf 4 f8.nd iJ) (ag (bf 5 f8.nd iJ) (ag (dw op rfl (cK K rfl (Y 3)) (pF 6 f8.nd) (ah (iS (bg ae) (iU (Y 5) (Y 6) (lw (cj D)))))) (ag (dw op rfl (c9 rfl T.eD (ac (au (rZ rfl) (by rfl) T.Gz L2.vF (ac (av bS (au (aG K rfl) (by rfl) T.bp L2.aH (ac (Y 0) ae)) af) (ac af ae))) ae)) (pF 7 f8.nd) (ag (bf 8 f8.nd (pc T.x5 (Go T) D (ac (Y 0) (ac (Y 1) (ac (Y 7) ae))))) (ag (aJ (aC aS (cS K (Y 8) af) aB (aE _)) (ah (iS (cS K (Y 8) af) (iU (Y 4) (cS K (Y 8) af) (lw (cj D))))) aA) (ag (bf 9 f8.nd (bF (ac aB (ac (iF K (Y 3) (av aR (pc T.dW (cG T) D (ac (Y 0) (ac (Y 7) (ac af ae)))) af)) (ac (pc T.oT (xt T) D (ac (pc T.dW (cG T) D (ac (Y 0) (ac (Y 7) (ac af ae)))) ae)) ae))))) (ah (dw op rfl (cK K rfl (bg (ac (Y 8) (ac (Y 9) ae)))) (pF 10 f8.nd) (ag (aJ (aC aS (cS K (Y 10) af) aB (aE _)) (ag (bf 11 f8.nd (pc T.x6 (Gq T hw) D (ac (Y 2) (ac (Y 10) (ac (Y 4) (ac (eC (cj D) (Y 5) (cS K (Y 10) af) (λ_ _=>rfl)) ae)))))) (ag (aJ (aC BX (Y 11) lM (aE _)) (ah (ax fc)) aA) (ah (iS (Y 11) (iU (Y 5) (cS K (Y 10) af) (lw (cj D))))))) (ah (aN (pc T.xY (Gk T hw) D (ac (Y 2) (ac (Y 10) ae)))))) (ah (dw op rfl (cK K rfl (Y 3)) (pF 6 f8.nd) (ag (bf 12 f8.nd (bw (Y 2) T.aF T.fI.m ((wI (P:=P) (w:=w) T).mono (by decide)) D T.fI.b .nil bx (ac (Y 6) ae))) (ag (aJ (bZ (aM K rfl (pc T.xZ (Gm T) D (ac (Y 12) (ac (eC (cj D) (Y 5) (Y 6) (λ_ _=>rfl)) ae))) (λ_=>rfl))) (ah (ax fc)) aA) (ah (aN (gK K rfl PySem.F.plainAttrs_list PySem.F.slot_list_append PySem.F.type_list_append dG (Y 12) (ac (bF (ac aB (ac aB ae))) ae))))))))))))))) (ah (ax fc))))))))),?_⟩
  refine U rfl ⟨sc,ns,rfl,hS,hl,λA p sa H1 s1 hq f6 f7 hP pr ge=>aq ?_⟩;have hp:=pr.le;refine U rfl (rX (aO.of hP.pl) (ak (k:=0) rfl) (U rfl (rX (aO.of hP.pl) (ak (k:=1) rfl) (λh dx hh gg eq=>?_))));have f2:ao H1 (az (az H1 dx (.own h)) h (.ins a.bu dx [])):=λb o e=>by rw[am (aD e hh),am (aD e gg)];exact e
  have d2:az (az H1 dx (.own h)) h (.ins a.bu dx []) h=some (.ins a.bu dx []):=O;generalize az (az H1 dx (.own h)) h (.ins a.bu dx [])=H2 at f2 d2⊢;refine⟨h,dx,(p:Int),sa,rfl,d2,⟨by lia,by lia⟩,pr.pr,ge,λln tn ci dl H3 er eu ev ew gv gx gy f3 ey di dt dT dV=>⟨rfl,aq ?_⟩⟩;have s3:ao H1 H3:=λb o e=>f3 b o (f2 b o e) (aD e hh);have cc:bA P w K a H3 (CC p sa) (A6 h ln tn ci dl dx):=G9 ey di dt dT dV gv gx gy;refine U rfl ⟨by exact j2 _,by exact j2 _,λgl a5=>?_⟩;refine fC (K:=K) (lo:=0) (n:=7) (λj cE H'=>ao H3 H'/\H' gl=some (.lst cE)/\∃(gs:RI),cE=gs.map V.str/\gs.length=j/\(∀g∈gs,Bw g)/\∀(i:Nat)(g:Str),gs[i]?=some g->M0 (i:Int) (cr ns 4 6) g) ⟨ai (ao.refl _) a5,O,[],rfl,rfl,λx hx=>(nomatch hx),λi g e=>(nomatch e)⟩ ?_ ?_
  ·rintro j cE H4 hj⟨s4,c0,gs,rfl,a6,c1,c2⟩;refine aq (jm (bI ?_));refine U rfl (U rfl ⟨sc,ns,4,6,rfl,((s1.trans s3).trans s4).seq hS,hl,⟨by decide,by decide⟩,⟨by decide,by decide⟩,0+(j:Int),cr ns 4 6,rfl,λg H5 s5 hg gV=>?_⟩);refine⟨s5 _ _ c0,by rw[c_,j1];lia,lf hj ⟨a0 (s4.trans s5) a5,O,gs++[g],by rw[il];rfl,by rw[iA,a6];rfl,λx hx=>?_,λi x e=>?_⟩⟩
   ·rcases Rz.mp hx with z|z
    ·exact c1 x z
    ·rw[List.mem_singleton.mp z];exact hg
   ·by_cases z:i<gs.length
    ·rw[q_ z]at e;exact c2 i x e
    ·rw[sg (PK z)]at e;have ei:i=j:=by have:=(d_.mp e).1;have:i-gs.length<1:=this;lia
     rw[ei,a6,Q7]at e;obtain rfl:=ji e;rw[ei,show((j:Nat):Int)=0+(j:Int)by lia];exact gV
  rintro cE H4⟨s4,c0,gs,rfl,a6,c1,c2⟩;refine aq λS a7=>aq λI X=>aq (Fl ?_);have s5:=ai (o:=.dK []) (ao.refl H4) a7;have es:az H4 S (.dK []) S=some (.dK []):=O;generalize az H4 S (.dK [])=H5 at s5 es X⊢;have s6:=ai (o:=.dK []) (ao.refl H5) X;have eb:az H5 I (.dK []) I=some (.dK []):=O;have gY:S≠I:=λz=>by rw[z,X]at es;cases es
  generalize az H5 I (.dK [])=H6 at s6 eb⊢;have an:=s5 _ _ c0;refine MN (λf H'=>ao H5 H'/\(Fk λbk v6=>H' I=some (.dK bk)/\bk.length<=7/\(∀g∈gs,∃l,aW bk (.inr g)=some (.ref l)/\H' l=some (.lst [])/\H5 l=none)/\f=[some (.ref sc),some (.ref A.pl),some (.ref h),some (.ref gl),some (.ref S),some (.ref I),v6,none,none,none,none,none,none])) ?A0 (λNn _ _ _ hJ=>?B0)
  case B0=>
   refine U rfl ⟨gl,rfl,⟨_,aO.of (s6 _ _ an)⟩,?_⟩;refine jH (xs:=gs.map V.str) (λk f H'=>ao H5 H'/\(Fk λbk v6=>H' I=some (.dK bk)/\bk.length<=k/\(∀g∈gs.take k,∃l,aW bk (.inr g)=some (.ref l)/\H' l=some (.lst [])/\H5 l=none)/\f=[some (.ref sc),some (.ref A.pl),some (.ref h),some (.ref gl),some (.ref S),some (.ref I),v6,none,none,none,none,none,none])) ⟨s6,[],_,eb,f_ _,λg hg=>(by rw[x_]at hg;cases hg),rfl⟩ (λk f H' _ h=>aO.of (h.1 _ _ an)) ?_ ?_
   ·rintro k v f H7 hv⟨s7,bk,v6,al,as,aa,rfl⟩;have hk:k<(gs.map V.str).length:=(d_.mp hv).1;rw[ig]at hv;obtain⟨g,hg,rfl⟩:=Option.map_eq_some_iff.mp hv;rw[c_]at hk;refine aq ⟨ls rfl,λl hl=>?_⟩;have s8:=ai (o:=.lst []) (ao.refl H7) hl;have e8:az H7 l (.lst []) l=some (.lst []):=O;generalize az H7 l (.lst [])=H8 at s8 e8⊢;have eG:=s8 _ _ al;refine U rfl (U rfl ⟨I,bk,.inr g,rfl,rfl,eG,by rw[j1];lia,?_⟩);have nl:l≠I:=λz=>by rw[z,eG]at e8;cases e8
    refine⟨a0 (s7.trans s8) X,_,_,O,mu (fK _ _ _) (tx as),λu a8=>?_,rfl⟩
    by_cases z:u=g
    ·exact⟨l,by rw[jn,i_ (by rw[z])],by rw[am nl];exact e8,s7.free hl⟩
    ·rw[cu hg]at a8;obtain⟨l',e1,e2,e3⟩:=aa u ((Rz.mp a8).resolve_right λy=>z (List.mem_singleton.mp y));have gZ:l'≠I:=λz=>by rw[z,al]at e2;cases e2
     exact⟨l',by rw[jn,ir λy=>z (ro y)];exact e1,by rw[am gZ];exact s8 _ _ e2,e3⟩
   ·rintro f H7⟨s7,bk,v6,al,as,aa,rfl⟩;rw[c_]at as aa;rw[ku (f_ _)]at aa;exact hJ _ _ ⟨s7,bk,_,al,by lia,aa,rfl⟩
  case A0=>
  rintro f H7⟨s7,bk,v6,al,as,aa,rfl⟩;have eH:=s4.trans s5;have ba:=s3.trans eH;have c3:=cc.same eH;obtain⟨ut,eN,_⟩:=hP.T;have bb:∀b o,H1 b=some o->¬gB (CC p sa) (A6 h ln tn ci dl dx) b:=λb o e z=>by
   rcases Hl z with rfl|rfl|rfl|rfl|rfl
   ·exact cp e hh
   ·exact cp e (f2.free er)
   ·exact cp e (f2.free eu)
   ·exact cp e (f2.free ev)
   ·exact cp e (f2.free ew)
  have nw:∀{b:Addr}{H':Hp},ao H1 H'->H' b=none->b≠A.L/\b≠A.T:=λs e=>⟨λz=>cp (s _ _ hP.L) (z▸e),λz=>cp (s _ _ eN) (z▸e)⟩;have bc:md P w K a (az H gl (.lst (gs.map V.str))) H7 ns (CC p sa) (A6 h ln tn ci dl dx) A S I 0 0 [] bk gs [] []:={
   z:=⟨c3.same s7,J9 ⟨by exact hp.1,by lia⟩,λi=>m_ _,λi=>m_ _,m_ _⟩
   pl:=hP.same (ba.trans s7)
   pn:=⟨λi l hl=>(nomatch hl),λj t ht=>(nomatch ht),m_ _,pr⟩
   io:=λl hl=>(nomatch hl)
   gu:=λl hl=>(nomatch hl)
   dk:=s7 _ _ es
   sh:=λt ht=>(nomatch ht)
   kl:=f_ _
   bk_:=al
   bl:=as
   bn:=λg hg=>by obtain⟨l,e1,e2,e3⟩:=aa g hg;exact⟨l,[],e1,e2,.nil,c3.foot e3,nw ba e3⟩
   ne:=gY
   f1:=bb _ _ hP.pl
   f2:=bb _ _ hP.L
   f3:=bb _ _ eN
   f4:=⟨(cc.same s4).foot a7,nw (s3.trans s4) a7⟩
   f5:=⟨c3.foot X,nw ba X⟩
   bs:=λb o e=>by
    by_cases z:b=gl
    ·rw[z,O]at e;rw[z,<-ji e];exact⟨s7 _ _ an,⟨cc.foot a5,nw s3 a5⟩,λy=>cp c0 (y▸a7),λy=>cp an (y▸X)⟩
    ·rw[am z]at e;have e1:=s1 _ _ e;exact⟨s7 _ _ (ba _ _ e1),⟨bb _ _ e1,aD e f6,aD e f7⟩,λy=>cp (s4 _ _ (s3 _ _ e1)) (y▸a7),λy=>cp (ba _ _ e1) (y▸X)⟩}
  have c4:aO K (az H gl (.lst (gs.map V.str))) sc (ns.map V.int):=(ai (ao.refl H) ((s1.trans s3).free a5)).seq hS;have d3:az H gl (.lst (gs.map V.str)) gl=some (.lst (gs.map V.str)):=O;generalize az H gl (.lst (gs.map V.str))=H0 at bc c4 d3;generalize eQ:A6 h ln tn ci dl dx=Z0 at bc;have eS:Z0.G .hh=h:=by rw[<-eQ];rfl
  clear eQ cc c3 ey di dt dT dV er eu ev ew f3 f2 d2 bb nw aa as al;obtain⟨mm,g0,hs,he⟩:∃mm:Int,mm=(if(40:Int)<(ns.length:Int)+8 then 40 else(ns.length:Int)+8)/\8<=mm/\mm<=40:=⟨_,rfl,by split<;>lia,by split<;>lia⟩;refine U rfl ⟨_,ns.length,rfl,.inl ⟨_,(bc.dr c4 hl).sq,by simp⟩,(ns.length:Int),8,rfl,rfl,(ns.length:Int)+8,40,rfl,?_⟩;rw[<-g0];refine⟨mm,rfl,by lia,by lia,?_⟩;refine gO (lo:=0) (n:=mm.toNat) (JM P w K a H0 ns A S I sc gl h gs) ⟨_,Z0,[],bk,_,_,_,_,_,_,_,bc,eS,rfl⟩ ?_ (λf H' _=>q H')
  clear bc eS;rintro i f H8 hi⟨M,Z,sk,bk,v6,v7,v8,v9,d4,bi,J,c,rfl,rfl⟩;refine aq (MP λR B C=>?_);refine U rfl (U rfl (U rfl ⟨sc,ns,M,A,2*i,0+(i:Int),rfl,c.dr c4 hl,⟨by omega,by omega⟩,λdv d xs H9 ch W hD eZ d5 e5=>aq (Fl ?_)⟩));have hB:=c.chg ch eZ;refine MN (λf H'=>∃ad,Pw (md P w K a H0 H' ns M Z A S I (2*i) (i+1) ad bk gs (u9 M d) (sy M d)) (aT K H' dv xs) (ii K H' M d xs) ((∀x,d=.trial x->∃s,aW ad (.inr x.nm)=some (.ref s)/\aT K H' s (x.shuts.map V.str))) (f=[some (.ref sc),some (.ref A.pl),some (.ref (Z.G .hh)),some (.ref gl),some (.ref S),some (.ref I),v6,some (.int (0+(i:Int))),some (.ref dv),v9,d4,bi,J])) ?A1 (λNn _ _ _ hJ=>?B1)
  case B1=>
   rcases hD.kt with⟨x,ar,ra,sh,rfl,rfl,g1,g3⟩|⟨k,r,rfl,g4,g5⟩
   ·refine U rfl (rX W (ak (k:=0) rfl) ⟨rfl,U rfl (bO ?_)⟩);refine U rfl (rX W (ak (k:=5) rfl) (U rfl (U rfl (rX W (ak (k:=1) rfl) ?_))));refine⟨S,sk,.inr x.nm,rfl,rfl,hB.dk,by have:=hB.kl;rw[j1];omega,?_⟩;have kp:Kp H9 (az H9 S (.dK (c7 sk (.inr x.nm) (.ref sh)))):=y4 hB.dk (λ_ z=>(nomatch z)) (λ_ _ z=>(nomatch z)) bV;exact hJ _ _ ⟨_,hB.put g3,kp.tq W,hD.kp kp,λy z=>⟨sh,by cases z;rw[jn,i_ rfl],by cases z;exact kp.tq g1⟩,rfl⟩
   ·refine U rfl (rX W (ak (k:=0) rfl) ⟨rfl,U rfl (mR g4 ?_)⟩);exact hJ _ _ ⟨sk,hB.mono (f_ _) (rk _),W,hD,λx z=>absurd z (g5 x),rfl⟩
  case A1=>
  clear W hD hB ch eZ;rintro f g6⟨ad,hB,W,hD,e6,rfl⟩;have bt:aO K g6 sc (ns.map V.int):=ao.seq (λb o e=>(hB.bs b o e).1) c4;have bz:=(hB.bs _ _ d3).1;have b7:=bD (cr ns (0+(i:Int)) 70) (show(0:Int)<7 by decide);obtain⟨g,hg,ha⟩:=iN (zs:=gs) b7.1 (by rw[a6];exact b7.2);refine U rfl (U rfl (U rfl ⟨sc,ns,0+(i:Int),70,rfl,bt,hl,⟨by exact j2 _,by omega⟩,⟨by decide,by decide⟩,_,U rfl ⟨rfl,(show(0:Int)<7 by decide),gl,_,_,U rfl ⟨rfl,aO.of bz,ha,?_⟩⟩⟩));refine U rfl (U rfl ⟨sc,ns,0+(i:Int),71,rfl,bt,hl,⟨by exact j2 _,by omega⟩,⟨by decide,by decide⟩,cr ns (0+(i:Int)) 71,rfl,λmt ms ea ec hm h3 h4 h5=>⟨ls rfl,λmv a2=>aq (Fl ?_)⟩⟩);have bK:=ai (o:=.tup [.str "visit",.str g,.ref mt]) (ao.refl ea) a2;have ed:az ea mv (.tup [.str "visit",.str g,.ref mt]) mv=some (.tup [.str "visit",.str g,.ref mt]):=O;generalize az ea mv (.tup [.str "visit",.str g,.ref mt])=ef at bK ed⊢;have eh:=(hB.same ec).same bK;have e7:=hm.kp (.of bK);refine U rfl (U rfl ⟨ls rfl,λol bN=>⟨ol,rfl,⟨_,aO.of O⟩,?_⟩⟩);have e9:∀u,d=.visit u->u∈gs:=λu e=>by subst e;obtain⟨j,j0,j7,hj⟩:=d5;obtain⟨g2,e2⟩:∃g2,gs[j.toNat]?=some g2:=⟨_,hY (by lia)⟩;have h2:=c2 _ _ e2;rw[Qi j0]at h2;rw[hj.one h2];exact h_ e2
  have b8:=ai (o:=.lst [.ref dv,.ref mv]) (ao.refl ef) bN;have ej:az ef ol (.lst [.ref dv,.ref mv]) ol=some (.lst [.ref dv,.ref mv]):=O;have da:=eh.grow (o:=.lst [.ref dv,.ref mv]) bN;have s0:ao H0 (az H0 ol (.lst [.ref dv,.ref mv])):=ai (ao.refl _) (ao.free (λb o e=>(eh.bs b o e).1) bN);have e0:az H0 ol (.lst [.ref dv,.ref mv]) ol=some (.lst [.ref dv,.ref mv]):=O;generalize az H0 ol (.lst [.ref dv,.ref mv])=ek at da s0 e0;generalize az ef ol (.lst [.ref dv,.ref mv])=el at da b8 ej⊢;have sA:=(ec.trans bK).trans b8;have hN:MW P w K a ek ns A S I ad gs (2*i) (i+1) el M Z bk dv:=⟨d,xs,da,ao.tseq sA W,hD.kp (.of sA),λ_=>d5,e9,λx e=>(e6 x e).imp λ_ q=>⟨q.1,ao.tseq sA q.2⟩⟩;have b9:∀M,ii K el M (.visit g) [.str "visit",.str g,.ref mt]:=λM=>.visit (c1 g hg) (e7.kp (.of b8)) h3 h4 h5;have a2:aT K el mv [.str "visit",.str g,.ref mt]:=aT.of (b8 _ _ ed);have fa:=s0 _ _ d3;generalize fg:Z.G .hh=ho;clear e9 da eh hB W hD e6 d5 e5 e7 hm ed ec bK sA b8 c2 bz bt ha h3 h4 h5 c bN;refine jH (xs:=[.ref dv,.ref mv]) (JN P w K a ek ns A S I sc gl ho ol dv mv mt gs ad g i) ⟨M,Z,bk,_,_,_,_,fg,a2,b9,λov e=>(by cases e;exact hN),λz=>(nomatch z),ej,rfl⟩ (λk f H' _ h=>by obtain⟨_,_,_,_,_,_,_,_,_,_,_,_,h,_⟩:=h;exact aO.of h) ?_ ?_
  ·clear hN b9 ej fg;rintro k v f H1 hv⟨M,Z,bk,v6,d4,bi,J,rfl,a2,b9,fl,_,bN,rfl⟩;obtain⟨hu,ov,rfl⟩:=two_at hv;obtain⟨d,xs,c,W,hD,fo,en,fq⟩:=fl ov hv;clear fl;refine aq (MP λR B C=>?_);refine MN (λf H'=>Ex4 λM' Z' eo ap=>md P w K a ek H' ns M' Z' A S I (2*i+k+1) (i+1) ad eo gs (gn M') (fV M')/\Z'.G .hh=Z.G .hh/\Kp H1 H'/\f=[some (.ref sc),some (.ref A.pl),some (.ref (Z'.G .hh)),some (.ref gl),some (.ref S),some (.ref I),v6,some (.int (0+(i:Int))),some (.ref dv),some (.ref mv),some (.ref ov),ap,J]) ?A2 (λNn _ _ _ hJ=>?B2)
   case B2=>
    rcases hD.kv with⟨u,m',rfl,rfl⟩|⟨k',r,rfl,eq,fv⟩
    ·obtain⟨l,us,e1,e2,e3,e4⟩:=c.bn u (en u rfl);refine U rfl (rX W (ak (k:=0) rfl) ⟨rfl,U rfl (bO ?_)⟩);refine U rfl (U rfl (U rfl (U rfl (U rfl (rX W (ak (k:=1) rfl) (rG (.ref l) (by rw[<-e1];exact d0.k (k:=.inr u) c.bk_) ⟨M,Z,2*i+k,ov,S,l,u,_,us,ad,rfl,c.z,by lia,c.few a6,c.io,W,hD,c.dk,c.sh,e2,e3,c.f4.1,e4.1,λr hy M' Z' H2 nx g7 st ep D a3 hw nf=>aq ?_⟩))))));obtain⟨ss,hV⟩:=g7;have fx:=c.z.g.stp st;have fy:=st.fr _ _ c.bk_ c.f5.1;refine U rfl ⟨rfl,U rfl (b0 (Fl (U rfl (U rfl (U rfl (rX (fx.tq W) (ak (k:=1) rfl) ⟨I,bk,.inr u,rfl,rfl,fy,by have:=c.bl;rw[j1];omega,?_⟩))))))⟩;have g8:Kp H2 (az H2 I (.dK (c7 bk (.inr u) (.ref r)))):=y4 fy (λ_ z=>(nomatch z)) (λ_ _ z=>(nomatch z)) bV;exact hJ _ _ ⟨M',Z',c7 bk (.inr u) (.ref r),some (.ref r),c.vis nx hV (en u rfl) st ep D a3 hw nf,st.hh,fx.trans g8,by rw[st.hh];rfl⟩
    ·refine U rfl (rX W (ak (k:=0) rfl) ⟨rfl,U rfl (mR eq ?_)⟩);refine U rfl (U rfl ⟨M,Z,2*i+k,ov,d,.str k'::r,rfl,c.z,by lia,λg z=>absurd z (fv g),W,hD,λg9 r us M' Z' H2 nx st ep D a3 e5=>hJ _ _ ⟨M',Z',bk,bi,c.fin nx fv st ep fo fq,st.hh,c.z.g.stp st,by rw[st.hh];rfl⟩,λhm z H2 s2=>hJ _ _ ⟨M,Z,bk,bi,c.not (Dd.may_adds hm) s2,rfl,.of s2,rfl⟩⟩)
   case A2=>
   clear c W hD fo en fq;rintro f H2⟨M',Z',eo,ap,c,ez,kp,rfl⟩;have d1:=(c.bs _ _ fa).1;refine U rfl ⟨gl,rfl,⟨_,aO.of d1⟩,?_⟩;refine jH (xs:=gs.map V.str) (λj f H'=>ao H2 H'/\(Fk λv6 J=>f=[some (.ref sc),some (.ref A.pl),some (.ref (Z'.G .hh)),some (.ref gl),some (.ref S),some (.ref I),v6,some (.int (0+(i:Int))),some (.ref dv),some (.ref mv),some (.ref ov),ap,J])) ⟨ao.refl _,_,_,rfl⟩ (λj f H' _ h=>aO.of (h.1 _ _ d1)) ?_ ?_
   ·rintro j v f H3 fR⟨s3,v6,J,rfl⟩;rw[ig]at fR;obtain⟨u,a8,rfl⟩:=Option.map_eq_some_iff.mp fR;have N:=c.same s3;obtain⟨l,us,e1,e2,e3,e4⟩:=N.bn u (h_ a8);refine aq (MP λR B C=>?_);refine pC N.z.g.house rfl rfl (U rfl ⟨M',Z',2*i+k+1,u,rfl,N.z,by omega,c1 u (h_ a8),λr f0 H4 s4 D a3 hw=>aq ?_⟩);have g9:(cC M'.came u).length<=1000:=mu (Bi (g:=u) N.z.ok.cm) (by omega);refine U rfl (U rfl (U rfl (rG (.ref l) (by rw[<-e1];exact d0.k (k:=.inr u) (s4 _ _ N.bk_)) ⟨r,l,f0,us,cC M'.came u,rfl,a3,s4 _ _ e2,hw,e3.kp (.of s4),by omega,true,rfl,b0 (Fl (U rfl ⟨.inl ⟨rfl,_,aO.of a3⟩,ls rfl,λt1 hb=>?_⟩))⟩)));have s5:=ai (o:=.tup [.str "none",.str "none"]) (ao.refl H4) hb;refine⟨r,f0,U rfl ⟨rfl,s5 _ _ a3,by rw[Paired.length hw,j1];omega,a0 ((s3.trans s4).trans s5) ?_,_,_,rfl⟩⟩;exact s3.free D
   ·rintro f H3⟨s3,v6,J,rfl⟩;have dc:=kp.trans (.of s3);have N:=c.same s3;refine⟨M',Z',eo,v6,some (.ref ov),ap,J,ez,dc.tq a2,λM=>(b9 M).kp dc,λhA e=>?_,λe=>?_,(N.bs _ _ e0).1,by rw[ez]⟩
    ·obtain⟨rfl,rfl⟩:=two_snd e;exact⟨.visit g,_,N,dc.tq a2,(b9 _).kp dc,λz=>(nomatch z),λ_ z=>(by cases z;exact hg),λ_ z=>(nomatch z)⟩
    ·obtain rfl:k=1:=by exact(Nat.add_right_cancel e)
     exact N
  ·rintro f H1⟨M,Z,bk,v6,d4,bi,J,rfl,_,_,_,c,_,rfl⟩;exact⟨M,Z,ad,bk,_,_,_,_,_,_,_,(c rfl).down s0,rfl,rfl⟩
end
def MQ{K:RC}{h:Heap}{mg:RF}{eS lj fY bK lg qB ue uc yf qy uf ud qz om qA kF oY:Addr}{cE:Addr}{pm:Params}{oQ:Array DictEntry}{u6:Nat}{BD:Addr}{Ki:Option Addr}{za:RK}{Dj:Nat}{Ji:Array (Option Value)}{q8:Value}{qZ:Option Addr}{kT:ClassData}{qV:Array (Option Value)}{kU:RG}(X:K.In h)(G:h.Ns mainGlobals mg)(Kw:Gp K "Table" eS)(Kx:Gp K "Layer" lj)(Ku:Gp K "Trial" fY)(Ky:Gp K "House" bK)(zF:Gp K "SplitError" lg)(Fi:Gp K "NoHouse" qB)(Ib:Gp K "NoDeed" ue)(HY:Gp K "NoWord" uc)(Kv:Gp K "Taken" yf)(Ff:Gp K "Unknown" qy)(Ic:Gp K "NoArms" uf)(HZ:Gp K "NoRule" ud)(Fg:Gp K "NoShuts" qz)(CU:Gp K "NoNumber" om)(Fh:Gp K "NoMarks" qA)(Id:Gp K "Closed" kF)(Ia:Gp K "NoRoom" oY)(mY:Cp K eS)(zn:aU K eS "many")(vq:aU K eS "owners")(wX:aU K eS "taken")(mZ:Cp K lj)(wZ:aU K lj "slope")(wY:aU K lj "table")(vw:aU K lj "inside")(mW:Cp K fY)(zk:aU K fY "home")(zm:aU K fY "arms")(zj:aU K fY "rule")(wW:aU K fY "shuts")(vn:aU K fY "paused")(vo:aU K fY "closed")(vp:aU K fY "barred")(m4:Cp K bK)(pX:aU K bK "own_prime")(rR:aU K bK "own_salt")(nG:aU K bK "layer_named")(nE:aU K bK "trial_named")(pY:aU K bK "came_into")(w4:aU K bK "deeds")(zo:nI K lg)(ER:nI K qB)(Hs:nI K ue)(Ho:nI K uc)(Kh:nI K yf)(EN:nI K qy)(Ht:nI K uf)(Hq:nI K ud)(EO:nI K qz)(CI:nI K om)(EQ:nI K qA)(Hu:nI K kF)(Hr:nI K oY)(Cj:Dp K "is_whole" oy)(yL:Dp K "is_text_of" i4)(EA:Dp K "is_word" qJ)(Cm:Dp K "is_guest" oA)(Cl:Dp K "is_prime" lz)(Cg:Dp K "point_of" oq)(AU:Dp K "is_number" mw)(ED:Dp K "is_mark" qM)(AW:Dp K "are_marks" iI)(Co:Dp K "has_form" oC)(yT:Dp K "all_within" lH)(Cf:Dp K "words_of" lx)(EC:Dp K "is_rule" qL)(JT:Dp K "holds" pz)(Cn:Dp K "is_count" oB)(EB:Dp K "is_salt" qK)(Ck:Dp K "is_total" oz)(AT:Dp K "is_weight" mq)(yS:Dp K "are_counts" i5)(wR:Dp K "are_weights" iz)(Cq:Dp K "are_arms" lG)(wO:Dp K "check_house" km)(yM:Dp K "check_word" lA)(wP:Dp K "check_guest" kn)(wN:Dp K "check_marks" kj)(yN:Dp K "check_rule" lB)(AV:Dp K "check_new" mx)(rc:Dp K "check_standing" gC)(wL:Dp K "check_slope" iy)(yR:Dp K "check_arms" lF)(wM:Dp K "check_shuts" ki)(wQ:Dp K "check_count" ko)(vb:Dp K "check_shares" ju)(tQ:Dp K "check_dealing" iP)(yP:Dp K "check_form" lD)(wK:Dp K "check_trial" kh)(yO:Dp K "check_open" lC)(yQ:Dp K "check_deed" lE)(Ci:Dp K "most_due" ox)(JU:Dp K "dealt" yt)(Ch:Dp K "place_of" ou)(vd:Mp K eS "__init__" "Table.__init__" jw)(re:Mp K eS "owner_of" "Table.owner_of" gD)(pQ:Mp K eS "places_of" "Table.places_of" ga)(yW:Mp K eS "free" "Table.free" i7)(yU:Mp K eS "told" "Table.told" i6)(pR:Mp K eS "give_back" "Table.give_back" gb)(yV:Mp K eS "take" "Table.take" lI)(ve:Mp K lj "__init__" "Layer.__init__" jx)(vc:Mp K fY "__init__" "Trial.__init__" jv)(vg:Mp K bK "__init__" "House.__init__" jz)(Cs:Mp K bK "do" "House.do" oF)(y0:Mp K bK "done" "House.done" lL)(rq:Mp K bK "do_layer" "House.do_layer" gI)(rj:Mp K bK "do_trial" "House.do_trial" gG)(rn:Mp K bK "do_share" "House.do_share" dC)(tS:Mp K bK "do_hold" "House.do_hold" iR)(rp:Mp K bK "do_pause" "House.do_pause" gH)(rB:Mp K bK "do_close" "House.do_close" gJ)(vf:Mp K bK "do_bar" "House.do_bar" jy)(rh:Mp K bK "do_visit" "House.do_visit" gF)(tR:Mp K bK "put_out" "House.put_out" iQ)(nA:Mp K bK "after_visit" "House.after_visit" dA)(rf:Mp K bK "seat_for" "House.seat_for" eU)(rg:Mp K bK "place_in" "House.place_in" gE)(wS:Mp K bK "stand" "House.stand" fj)(yZ:Mp K bK "ever" "House.ever" lK)(Cr:Dp K "_law_cell_at" oE)(GX:Dp K "_law_mixed" uM)(JV:Dp K "_law_word" yu)(GZ:Dp K "_law_guest" uN)(JX:Dp K "_law_rule" yx)(GY:Dp K "_law_marks" pA)(JZ:Dp K "_law_plan" yz)(yY:Dp K "_law_new_layer" lJ)(yX:Dp K "_law_new_trial" i8)(GW:Dp K "_law_share" my)(J0:Dp K "_law_deed" yA)(JY:Dp K "_law_rows" yy)(JW:Dp K "_law_told" yw)(J1:Dp K "_law_come" pB)(On:Dp K "law" C7)(EK:OW K "LETTERS" "abcdefghijklmnopqrstuvwxyz")(wV:OW K "GUEST_SIGNS" "abcdefghijklmnopqrstuvwxyz0123456789")(vk:Ip K "LONGEST_WORD" 12)(tX:Ip K "LONGEST_GUEST" 24)(wU:Ip K "LEAST_PRIME" 2)(rQ:Ip K "GREATEST_PRIME" 997)(Kb:Ip K "MIXER" 1009)(zi:Ip K "MOST_MARKS" 8)(vm:Ip K "DEEPEST_RULE" 6)(zh:Ip K "MOST_RULES" 30)(ze:Ip K "MOST_WORDS" 3)(A8:Ip K "MOST_ARMS" 4)(zg:Ip K "MOST_SHUTS" 8)(zf:Ip K "MOST_TOTAL" 1000)(Fj:Gp K "LENGTHS" cE)(EE:K.lookup cE=some ⟨.type "dict",none,.dict oQ u6,#[]⟩)(Cu:PySem.W.KeysLit pm oQ.toList)(Ct:(cE==sysModules)=false)(tz:∃tk,PySem.W.nsIn K cE "layer"=some (some (.int 3 tk)))(tm:∃tk,PySem.W.nsIn K cE "trial"=some (some (.int 6 tk)))(tu:∃tk,PySem.W.nsIn K cE "share"=some (some (.int 3 tk)))(uk:∃tk,PySem.W.nsIn K cE "deal"=some (some (.int 4 tk)))(uj:∃tk,PySem.W.nsIn K cE "hold"=some (some (.int 3 tk)))(tw:∃tk,PySem.W.nsIn K cE "pause"=some (some (.int 2 tk)))(yh:∃tk,PySem.W.nsIn K cE "go"=some (some (.int 2 tk)))(tD:∃tk,PySem.W.nsIn K cE "close"=some (some (.int 2 tk)))(we:∃tk,PySem.W.nsIn K cE "bar"=some (some (.int 3 tk)))(tj:∃tk,PySem.W.nsIn K cE "visit"=some (some (.int 3 tk)))(MR:Gp K "HELD" BD)(Lf:K.lookup BD=some ⟨.type "tuple",Ki,.seq za Dj,Ji⟩)(Fo:aY [.str "",.str ""] za.toList)(qY:K.lookup kF=some ⟨q8,qZ,.cls kT,qV⟩)(qW:kT.mro=.ref kF::kU)(qX:(Value.ref kF::kU).contains (.ref oY)=false)(NA:Zp K "all")(Nz:Zp K "any")(Le:Zp K "bool")(Fn:Zp K "divmod")(zN:Zp K "enumerate")(Ny:Zp K "int")(ye:Zp K "isinstance")(Nx:Zp K "len")(Ld:Zp K "list")(Nw:Zp K "max")(Nv:Zp K "min")(Iw:Zp K "range")(BC:Zp K "reversed")(Nu:Zp K "set")(Fm:Zp K "sorted")(Nt:Zp K "str")(Nr:Zp K "sum")(Iv:Zp K "tuple")(Nq:Zp K "zip"):∃a:jl,Txt K mg a/\pm=a.pm:=by obtain⟨fl,fo,vU⟩:=Cj;obtain⟨dT,dV,qh⟩:=yL;obtain⟨hj,hk,x8⟩:=EA;obtain⟨fq,fv,vX⟩:=Cm;obtain⟨fx,fy,vW⟩:=Cl;obtain⟨fR,f0,vR⟩:=Cg;obtain⟨e3,e4,sY⟩:=AU;obtain⟨hl,ho,yc⟩:=ED;obtain⟨e5,e6,tf⟩:=AW;obtain⟨f6,f7,vZ⟩:=Co;obtain⟨d1,d2,qt⟩:=yT;obtain⟨ge,gg,vQ⟩:=Cf;obtain⟨x_is_rule,hp,yb⟩:=EC;obtain⟨hA,hB,DH⟩:=JT;obtain⟨gv,gV,vY⟩:=Cn;obtain⟨hq,hr,x9⟩:=EB;obtain⟨g0,g1,vV⟩:=Ck;obtain⟨e7,e8,sX⟩:=AT;obtain⟨d3,d4,qp⟩:=yS;obtain⟨bz,bN,oj⟩:=wR;obtain⟨g2,g3,v0⟩:=Cq;obtain⟨b7,b8,oa⟩:=wO;obtain⟨d5,ea,qi⟩:=yM;obtain⟨b9,cc,og⟩:=wP;obtain⟨x_check_marks,ci,n9⟩:=wN;obtain⟨eb,ec,qj⟩:=yN;obtain⟨e9,fa,sZ⟩:=AV;obtain⟨u,v,ld⟩:=rc;obtain⟨c0,c1,n6⟩:=wL;obtain⟨ed,ef,qo⟩:=yR;obtain⟨c2,c3,n8⟩:=wM;obtain⟨c4,da,oh⟩:=wQ;obtain⟨a8,ba,mQ⟩:=vb;obtain⟨an,ap,l9⟩:=tQ;obtain⟨eh,ei,ql⟩:=yP;obtain⟨dc,di,nZ⟩:=wK;obtain⟨x_check_open,ej,qk⟩:=yO;obtain⟨ek,el,qm⟩:=yQ;obtain⟨g4,g5,vT⟩:=Ci;obtain⟨hC,hD,DI⟩:=JU;obtain⟨g6,g7,vS⟩:=Ch;obtain⟨bb,b,c,jN⟩:=vd;obtain⟨x,y,z,gY⟩:=re;obtain⟨o,p,q,gx⟩:=pQ;obtain⟨en,eo,ep,lY⟩:=yW;obtain⟨eq,er,es,lW⟩:=yU;obtain⟨r,s,t,gy⟩:=pR;obtain⟨eu,ev,ew,lX⟩:=yV;obtain⟨x_Layer__init_,d,e,jO⟩:=ve;obtain⟨bc,f,g,jM⟩:=vc;obtain⟨bd,i,j,jQ⟩:=vg;obtain⟨g8,ha,hb,oV⟩:=Cs;obtain⟨ey,ez,eG,l6⟩:=y0;obtain⟨A,B,C,ic⟩:=rq;obtain⟨D,E,F,hU⟩:=rj;obtain⟨I,J,L,ia⟩:=rn;obtain⟨as,a2,a3,iZ⟩:=tS;obtain⟨M,N,O,ib⟩:=rp;obtain⟨Q,R,S,ie⟩:=rB;obtain⟨bi,bt,bu,jP⟩:=vf;obtain⟨x_House_do_visit,T,U,hE⟩:=rh;obtain⟨a5,a6,a7,iY⟩:=tR;obtain⟨k,l,n,fg⟩:=nA;obtain⟨V,Y,Z,gZ⟩:=rf;obtain⟨aa,ad,al,g9⟩:=rg;obtain⟨dt,dv,dK,kD⟩:=wS;obtain⟨eH,eN,eQ,lZ⟩:=yZ;obtain⟨he,hf,wa⟩:=Cr;obtain⟨hs,ht,By⟩:=GX;obtain⟨hF,hG,DJ⟩:=JV;obtain⟨hu,hv,BA⟩:=GZ;obtain⟨hH,hI,DL⟩:=JX;obtain⟨x_Lmarks,hw,Bz⟩:=GY;obtain⟨hJ,hK,DN⟩:=JZ;obtain⟨eZ,e0,qv⟩:=yY;obtain⟨e1,e2,qu⟩:=yX;obtain⟨hx,hy,Bx⟩:=GW;obtain⟨hL,hM,DO⟩:=J0;obtain⟨hN,hO,DM⟩:=JY;obtain⟨hP,hQ,DK⟩:=JW;obtain⟨hR,hS,DP⟩:=J1;obtain⟨hT,hV,La⟩:=On;exact⟨⟨fl,dT,hj,fq,fx,fR,e3,hl,e5,f6,d1,ge,x_is_rule,hA,gv,hq,g0,e7,d3,bz,g2,b7,d5,b9,x_check_marks,eb,e9,u,c0,ed,c2,c4,a8,an,eh,dc,x_check_open,ek,g4,hC,g6,bb,x,o,en,eq,r,eu,x_Layer__init_,bc,bd,g8,ey,A,D,I,as,M,Q,bi,x_House_do_visit,a5,k,V,aa,dt,eH,he,hs,hF,hu,hH,x_Lmarks,hJ,eZ,e1,hx,hL,hN,hP,hR,hT,eS,lj,fY,bK,lg,qB,ue,uc,yf,qy,uf,ud,qz,om,qA,kF,oY,cE,BD,pm⟩,⟨⟨vU,PySem.W.mg_of X G fo,b1 vU⟩,⟨qh,PySem.W.mg_of X G dV,b3 qh⟩,⟨x8,PySem.W.mg_of X G hk,b1 x8⟩,⟨vX,PySem.W.mg_of X G fv,b1 vX⟩,⟨vW,PySem.W.mg_of X G fy,b1 vW⟩,⟨vR,PySem.W.mg_of X G f0,b3 vR⟩,⟨sY,PySem.W.mg_of X G e4,b1 sY⟩,⟨yc,PySem.W.mg_of X G ho,b1 yc⟩,⟨tf,PySem.W.mg_of X G e6,b1 tf⟩,⟨vZ,PySem.W.mg_of X G f7,b2 vZ⟩,⟨qt,PySem.W.mg_of X G d2,b1 qt⟩,⟨vQ,PySem.W.mg_of X G gg,b1 vQ⟩,⟨yb,PySem.W.mg_of X G hp,b1 yb⟩,⟨DH,PySem.W.mg_of X G hB,b2 DH⟩,⟨vY,PySem.W.mg_of X G gV,b1 vY⟩,⟨x9,PySem.W.mg_of X G hr,b1 x9⟩,⟨vV,PySem.W.mg_of X G g1,b1 vV⟩,⟨sX,PySem.W.mg_of X G e8,b1 sX⟩,⟨qp,PySem.W.mg_of X G d4,b2 qp⟩,⟨oj,PySem.W.mg_of X G bN,b2 oj⟩,⟨v0,PySem.W.mg_of X G g3,b1 v0⟩,⟨oa,PySem.W.mg_of X G b8,b2 oa⟩,⟨qi,PySem.W.mg_of X G ea,b1 qi⟩,⟨og,PySem.W.mg_of X G cc,b1 og⟩,⟨n9,PySem.W.mg_of X G ci,b1 n9⟩,⟨qj,PySem.W.mg_of X G ec,b1 qj⟩,⟨sZ,PySem.W.mg_of X G fa,b2 sZ⟩,⟨ld,PySem.W.mg_of X G v,b2 ld⟩,⟨n6,PySem.W.mg_of X G c1,b3 n6⟩,⟨qo,PySem.W.mg_of X G ef,b1 qo⟩,⟨n8,PySem.W.mg_of X G c3,b2 n8⟩,⟨oh,PySem.W.mg_of X G da,b1 oh⟩,⟨mQ,PySem.W.mg_of X G ba,b2 mQ⟩,⟨l9,PySem.W.mg_of X G ap,b3 l9⟩,⟨ql,PySem.W.mg_of X G ei,b1 ql⟩,⟨nZ,PySem.W.mg_of X G di,b3 nZ⟩,⟨qk,PySem.W.mg_of X G ej,b2 qk⟩,⟨qm,PySem.W.mg_of X G el,b4 qm⟩,⟨vT,PySem.W.mg_of X G g5,b2 vT⟩,⟨DI,PySem.W.mg_of X G hD,b2 DI⟩,⟨vS,PySem.W.mg_of X G g7,b3 vS⟩,⟨jN,⟨b,c,jN.kp⟩,b2 jN⟩,⟨gY,⟨y,z,gY.kp⟩,b2 gY⟩,⟨gx,⟨p,q,gx.kp⟩,b2 gx⟩,⟨lY,⟨eo,ep,lY.kp⟩,b1 lY⟩,⟨lW,⟨er,es,lW.kp⟩,b2 lW⟩,⟨gy,⟨s,t,gy.kp⟩,b3 gy⟩,⟨lX,⟨ev,ew,lX.kp⟩,b3 lX⟩,⟨jO,⟨d,e,jO.kp⟩,b3 jO⟩,⟨jM,⟨f,g,jM.kp⟩,b5 jM⟩,⟨jQ,⟨i,j,jQ.kp⟩,b3 jQ⟩,⟨oV,⟨ha,hb,oV.kp⟩,b2 oV⟩,⟨l6,⟨ez,eG,l6.kp⟩,b2 l6⟩,⟨ic,⟨B,C,ic.kp⟩,b3 ic⟩,⟨hU,⟨E,F,hU.kp⟩,b3 hU⟩,⟨ia,⟨J,L,ia.kp⟩,b3 ia⟩,⟨iZ,⟨a2,a3,iZ.kp⟩,b3 iZ⟩,⟨ib,⟨N,O,ib.kp⟩,b3 ib⟩,⟨ie,⟨R,S,ie.kp⟩,b2 ie⟩,⟨jP,⟨bt,bu,jP.kp⟩,b3 jP⟩,⟨hE,⟨T,U,hE.kp⟩,b3 hE⟩,⟨iY,⟨a6,a7,iY.kp⟩,b3 iY⟩,⟨fg,⟨l,n,fg.kp⟩,b3 fg⟩,⟨gZ,⟨Y,Z,gZ.kp⟩,b5 gZ⟩,⟨g9,⟨ad,al,g9.kp⟩,b3 g9⟩,⟨kD,⟨dv,dK,kD.kp⟩,b2 kD⟩,⟨lZ,⟨eN,eQ,lZ.kp⟩,b2 lZ⟩,⟨wa,PySem.W.mg_of X G hf,b2 wa⟩,⟨By,PySem.W.mg_of X G ht,b3 By⟩,⟨DJ,PySem.W.mg_of X G hG,b2 DJ⟩,⟨BA,PySem.W.mg_of X G hv,b2 BA⟩,⟨DL,PySem.W.mg_of X G hI,b2 DL⟩,⟨Bz,PySem.W.mg_of X G hw,b1 Bz⟩,⟨DN,PySem.W.mg_of X G hK,b1 DN⟩,⟨qv,PySem.W.mg_of X G e0,b2 qv⟩,⟨qu,PySem.W.mg_of X G e2,b3 qu⟩,⟨Bx,PySem.W.mg_of X G hy,b4 Bx⟩,⟨DO,PySem.W.mg_of X G hM,b3 DO⟩,⟨DM,PySem.W.mg_of X G hO,b2 DM⟩,⟨DK,PySem.W.mg_of X G hQ,b2 DK⟩,⟨DP,PySem.W.mg_of X G hS,b4 DP⟩,⟨La,PySem.W.mg_of X G hV,b1 La⟩,EK.m X G,wV.m X G,vk.m X G,tX.m X G,wU.m X G,rQ.m X G,Kb.m X G,zi.m X G,vm.m X G,zh.m X G,ze.m X G,A8.m X G,zg.m X G,zf.m X G,Kw.m X G,⟨mY.p0,mY.p1,mY.p2,mY.p3⟩,⟨mY.p4,b,c,mY.p5⟩,zn,vq,wX,Kx.m X G,⟨mZ.p0,mZ.p1,mZ.p2,mZ.p3⟩,⟨mZ.p4,d,e,mZ.p5⟩,wZ,wY,vw,Ku.m X G,⟨mW.p0,mW.p1,mW.p2,mW.p3⟩,⟨mW.p4,f,g,mW.p5⟩,zk,zm,zj,wW,vn,vo,vp,Ky.m X G,⟨m4.p0,m4.p1,m4.p2,m4.p3⟩,⟨m4.p4,i,j,m4.p5⟩,pX,rR,nG,nE,pY,w4,zF.m X G,zo,Fi.m X G,ER,Ib.m X G,Hs,HY.m X G,Ho,Kv.m X G,Kh,Ff.m X G,EN,Ic.m X G,Ht,HZ.m X G,Hq,Fg.m X G,EO,CU.m X G,CI,Fh.m X G,EQ,Id.m X G,Hu,Ia.m X G,Hr,Fj.m X G,⟨Ct,oQ,u6,EE,Cu⟩,tz,tm,tu,uk,uj,tw,yh,tD,we,tj,MR.m X G,⟨_,za,Dj,Lf,rfl,rfl,by rw[<-nn,<-Fo.length,j1];simp,Fo⟩,⟨_,⟨_,_,_,_,qY,qW⟩,qX⟩,NA.m X G,Nz.m X G,Le.m X G,Fn.m X G,zN.m X G,Ny.m X G,ye.m X G,Nx.m X G,Ld.m X G,Nw.m X G,Nv.m X G,Iw.m X G,BC.m X G,Nu.m X G,Fm.m X G,Nt.m X G,Nr.m X G,Iv.m X G,Nq.m X G⟩,rfl⟩
end My
structure PySem.W.Fast:Prop where(tw9993428670425264135 tw7389906284713835299 tw4061946865746483053 tw8267160660579527107 tw1815388279302099330 tw12113733989912907887 tw5469623472288581628 tw686039968272146398 tw14320451984042587588 tw17497943301458539080 tw4053530689322076212 tw6574762276152481116 tw17004950793673381909 tw5006664486520112054 tw5020424753080275074 tw6298677905029566544 tw6234703818602696615 tw16699734140321850056 tw8638080053766143036 tw7492543156338571459 tw3836302394827360389 tw11249065501849066442 tw16132410499057559907 tw6599941034593927415 tw10115987968236603867 tw14952155705939741941 tw12657410897805894249 tw7657503464166597570 tw447435697101884479 tw3164926090255670632 tw18008136872543514968 tw17700813768056700453 tw15414747579758666496 tw10600108292136287527 tw6364305797206534431 tw1406591989645550381 tw6356830568404684743 tw9619541379954645482 tw13667232890264621550 tw5167844837163008910 tw6594735843846466862 tw2219729940776175567 tw13336133338135149134 tw14815722709031958551 tw13351256485535121152 tw4598579787553423599 tw10884167665163230611 tw12293177792946295495 tw649485141637792469 tw2345453831824105381 tw2119697767759809697 tw5681042786702315324 tw14800805699119825209 tw4278194715925923814 tw7721593248992560969 tw2115259607670872528 tw6982795801120158930 tw13681682147361083872 tw3967452560370703722 tw7626060466729159179 tw14990409913589141540 tw16829315678551217012 tw10433589987690125335 tw8178245247238496561 tw9216644841321524988 tw11432630079571545371 tw4288357631505158789 tw12965986796648862436 tw8644431184896020588 tw17741633728317457762 tw15813663296906141109 tw5665920559409895090 tw10223645092331838485 tw4743434650960345368 tw14958491904310090558 tw8914293598416031555 tw14082825240240359503 tw6933727009366712503 tw10719871609991994396 tw2135637590705166878 tw10308179040505790315 tw3486758695092018414 tw7246039005218880915 tw784071319412317326 tw15575399737055633625 tw12995382500370993 tw17321921642071274790 tw7941792890267874153 tw18374631031579704638 tw7547585134519313816 tw12141217796422051656 tw3164337551727707360 tw12125852195787751139 tw10506882487991379539 tw12195689464478435007 tw12194939234133115702 tw11270110984198278961 tw12186406371184282569 tw15604062465386388112 tw18064456460242517179 tw11694024361811896076 tw17479019847420392524 tw3107321412345873306 tw15338081803461355199 tw10423104851959436173 tw3408795000369125744 tw2333468846510828975 tw13184152516187689829 tw3322397975426197065 tw12113673582935710269 tw14101828004895871955 tw13534940042881558158 tw9449488300482026366 tw13770849312337031350 tw16154603187742546122 tw14187624264896658243 tw410537684097217962 tw6898674741045833746 tw12922035846390897269 tw11852418876648963655 tw14343998635762109379 tw17086610163645429943 tw15309848996464419833 tw5586580761127405531 tw9078059970400236282 tw10755971282607410229 tw17308573140243479861 tw1538549502785318776 tw11583752233405971809 tw17447782563444131287 tw15406189848835272541 tw2731076866479593067 tw5123381155298643784 tw8077102180986382584 tw16644511278949537060 tw2070384429886999258 tw17938073403057115500 tw3699943988485321979 tw17536145716076075122 tw17944252665057071040 tw7571407657777509709 tw2453116494409569558 tw3613224444406284901 tw4803274295148440949 tw16454847194559460808 tw9049527128678108153 tw4992139130711143420 tw15949356835395588508 tw545243984019618251 tw15204166692913099634 tw17786801004362236154 tw6788069565692336735 tw11651343633208157820 tw4840387408852658087 tw13232743927798036399 tw7655875610489351759 tw8550807809055558483 tw8510248904463782278 tw14088142813949479144 tw10335493835665014519 tw5286776598472289123 tw11497174086839152397 tw13963538418054472539 tw5807743192700703462 tw7385083197352980846 tw15520836217750591695 tw1259605718736675984 tw8757663119831173306 tw2925790842376018845 tw5489688499107904251 tw3054101163976292450 tw12975875482315172744 tw6547556539378550665 tw9914032908916218759 tw10146301349094209829 tw8337363880299978452 tw17218004459771604303 tw16700171004931074352 tw1152965102451258034 tw639032531027244511 tw8473865048190466098 tw17630745870277970941 tw4987732066766534415 tw13919704940912751519 tw18297559102608141487 tw3867467879160515174 tw17550226315761208964 tw13207044477960904704 tw4322486330174217012 tw3407022946915790262 tw10372989086149100401 tw10637418004856465592 tw17416147544659707172 tw10788528436043860242 tw492330939833782414 tw8392068901734926904 tw1397088660554446084 tw11207422810946695758 tw4553384945549836878 tw16829230492656004959 tw16572756361489333518 tw8371452593514087096 tw13360304841059412158 tw6773921519466303895 tw8660807460956868534 tw7477599472696809109 tw5340829125098369178 tw11857568575959421119 tw217764306555114093 tw2526973653975592988 tw14928920837790959265 tw17881971078156630440 tw1918156330743997007 tw11434770817248466385 tw9268037625405469315 tw17272882184853069823 tw7804655938221145632 tw17769211995612579264 tw11730995246737784150 tw501849526902288061 tw7753559408410649960 tw311999324755523451 tw190919478168758440 tw10571205886688512700 tw16887142686710964787 tw8854510343489610276 tw16884912242004724120 tw5913396668255575390 tw17293311192553463407 tw16406822121674970035 tw10526940130936632415 tw16595660171436917351 tw15392503890485404873 tw4895558248145092366 tw12886166811184513006 tw8235170847657518353 tw16001041977290964090 tw14142370778999280257 tw256364036887192762 tw9095006795732236670 tw11579417278257942805 tw1817867647235221667 tw7908787489812578134 tw14240168747288092265 tw12271199751971884164 tw10718647377029743000 tw9338025319208610845 tw16567602396898670272 tw4801313060412059137 tw14656023351721729909 tw7064420090477096666 tw6859193991798353682 tw15968809700259452665 tw2058663979684479359 tw4530306444545916427 tw10642787267145367065 tw10242399716437459434 tw908193930573206309 tw10534846366201763692 tw17902127607956587367 tw11249513744298262947 tw16589344300761464605 tw15573016496320900117 tw15340657089780763238 tw18371203361304013425 tw11107657054296871664 tw16156381275682009219 tw17149296774492012036 tw15958554726298350041 tw9112209537262325879 tw8956562649844096427 tw5602925176181708967 tw8141857820715529317 tw12657813877636802727 tw2803287667723028234 tw12896090768620720370 tw15866633348576399374 tw10055958355806554833 tw2445208658135038510 tw12741413452848208600 tw17321201453660451022 tw53940589191786732 tw12432100041301764067 tw9631984555459296305 tw11107351704865497520 tw5961537880552382535 tw6557362758409387203 tw7245285912354784263 tw2557903631721561294 tw9289359126446791806 tw4754336170821926102 tw8420562486035928769 tw4398291652860223260 tw13237419437567807228 tw10334766516298381981 tw15451144029464934908 tw14772086015877378871 tw192050724480281343 tw9799566548743956112 tw5407849823312627841 tw971168785320378313 tw5943317886005939498 tw10619786622674145850 tw9351275721709788712 tw16572641681243580478 tw2273126472319075217 tw4094708479308440314 tw13362477906780145616 tw11582503975808399342 tw1012554761105666499 tw3714337271344409613 tw10134552849261164100 tw13202062552501827306 tw3418426489192509367 tw2646541236117187760 tw11428660145036654163 tw10122321473236482119 tw2011519841046295326 tw4716714078746630702 tw15766880937096068062 tw8975688918607946490 tw7829617701667587041 tw13987942062716212750 tw14294136620967671918 tw5288727071032880203 tw6707976665771026939 tw14704239274643770525 tw17726911001702631555 tw17524783458438452964 tw18137314276242428686 tw2872527451984414889 tw16994883015016723654 tw2964447023084824728 tw3987911234421410168 tw17778619837272077873 tw9169949601240582347 tw16632929662240665590 tw15289702091421238694 tw16697501984757232312 tw1905923834057030143 tw12844849227040439800 tw1700809163994541818 tw13004273992721655834 tw4673173861903811504 tw16623653850759992653 tw9960478374765083362 tw4751067648325182856 tw2462990197461373238 tw5554510757249655189 tw3581077328365422960 tw9671636206654340647 tw4238371095705418573 tw9194795772893325948 tw6340021969959842699 tw5108566295249424744 tw2211829609866202367 tw12638114002978895041 tw7364331100231764579 tw16642259356415221070 tw4913409550757003873 tw10473265449877824196 tw17904590909680256535 tw6844630078198886942 tw5894424933553558191 tw648801707489401909 tw13335751327836587880 tw13463558725879897813 tw6701621916934687828 tw6697468672028176372 tw11852172254493615919 tw6740735596482417987 tw10312017816997111503 tw4615736253370556673 tw15030486593548863630 tw13465871039578074072 tw4318455800158368494 tw3711181332431106110 tw569995685863851169 tw822429993476928088 tw18198854606726135652 tw11665149475717969072 tw602874845867919420 tw2143260455652011302 tw4335467451128600066 tw18339665657689755617 tw1325376935776316600 tw12318465232193644182 tw11266903628566260496 tw1955961080291367130 tw734099801946701419 tw10474843078573088263 tw1239409086465215467 tw17469396509208753476 tw4231830210403495716 tw17614082335652270120 tw6537145291093026719 tw16105757735597258101 tw9886592976302932214 tw11144781146344932937 tw7773994322480922835 tw2224887462899721067 tw2872684547576973566 tw15246396470819752490 tw12916551480220920033 tw3746923674224102135 tw11267347591664118908 tw13068774241627818111 tw3374424943237243112 tw12087266676986243644 tw754080498933761663 tw4626414860804595866 tw11080904255046684669 tw3920546594053374557 tw1548267120280931941 tw9525071519763585869 tw11349552000521489853 tw13087567834244450958 tw14895066891884692605 tw15785504758580365474 tw5939711963309411026 tw534689046210778297 tw2422613232546627771 tw8812465099004905993 tw7800200752807016033 tw3321539655502714293 tw408744362469233661 tw6636960245291808940 tw17163633903766811048 tw5502911107277946497 tw10229537969481707796 tw14262044307379422252 tw4753338787960529476 tw13769350583518478860 tw12427323657202188862 tw5433178178090211723 tw15525542408143325583 tw5682884651425378177 tw15366122648965174217 tw1500212136374206767 tw5826162144696417960 tw11292297352302929204 tw17494745597788953950 tw11515163775456068331 tw13083373851435053090 tw14954465702650007834 tw6329092885201251450 tw10342179180919421072 tw6638828242155211164 tw7783471395033556909 tw8638422411690848282 tw11095745953752232708 tw1745681870991782579 tw14117664331931569294 tw5539073906193117721 tw10600008556205544354 tw4723174313653786689 tw7236876260936151132 tw14574506628005675281 tw16902114214703407747 tw5013754784871357442 tw2997128259720414485 tw9159330014458029651 tw288774223538413016 tw9102016950333619030 tw9254856385511865129 tw14628347138825327462 tw7069609925558383992 tw17419194422477797084 tw7947965820191711365 tw17520234085259741064 tw13791286892152689339 tw7143171309506150024 tw9828215989451291891 tw1016479445081399755 tw17252307621233370649 tw1561859525126617746 tw4538757837156478078 tw5982735606918632352 tw1609251467552196631 tw9295696247623283801 tw8048136394387874338 tw4011066782527068713 tw10305484073502912946 tw12984956113511327797 tw4094459348835329920 tw7940983709643239986 tw10899602356374430961 tw6192103760766107871 tw6571922558587818136 tw9904531946569792609 tw16493426591841105513 tw13443417618240317591 tw14379613168209953727 tw16001569463757906727 tw882203938908551849 tw4251521187904677617 tw8547923279916004746 tw14146920002035000826 tw2033137814983705058 tw7426506430880880037 tw1493971983494434088 tw18140624016641508015 tw2117930429850348029 tw10447308940804993153 tw4547510893258371574 tw8268792329549752835 tw17951099222924762426 tw16753677275673559470 tw14115702230525253691 tw15726672939692196318 tw14345607242340158686 tw16565406344170731216 tw7371131615033833594 tw6391618502627916465 tw14752376444783810246 tw13548436665353847971 tw1990094893559967762 tw9977796793789094364 tw833850394180754596 tw10681123058498783081 tw12153564108668354416 tw7684058166529620201 tw14357740565399082460 tw18080360966840365611 tw12202357875315347130 tw10995060193704526337 tw11396978475401140096 tw1801971173774321340 tw14673725206586555062 tw425459391710834323 tw16883353338726364257 tw3465594055142897641 tw7635557453738651964 tw7047861618808381172 tw10576965602070573542 tw145799967680161705 tw16738018721488625140 tw5062820080341189871 tw18361788599913216831 tw5780760548048507947 tw6680516882282608204 tw6296083491525468304 tw1099585165992105233 tw9220641984194553846 tw15208935269386061544 tw7738397579841642435 tw14889336479429631235 tw6604087438634653067 tw4628646646533096648 tw7861419302685223039 tw13448696210983957526 tw10909419285851387683 tw11842904242218355268 tw6713284453848322941 tw12302505549121005365 tw5284181946051627171 tw14454255366829076192 tw14533749999719657041 tw8355225117831933283 tw5641612952381434497 tw1084326611266380832 tw4235698820559977438 tw3523179706550946206 tw12602406758586361510 tw10971146121035233884 tw1059834444649396017 tw13228995700069044679 tw16368807648693647733 tw7059077534700747376 tw3988168825432597953 tw10547580114953999279 tw14639389759537703976 tw8381512695209618217 tw2774074504871158840 tw14307652977507487392 tw9980890506178290361 tw2770168822303030835 tw8012326836489431544 tw11546654480052359466 tw15153361030169014208 tw13954588122632886286 tw6786897394677331795 tw14986843345646416136 tw3039752408050796512 tw4339365923251310291 tw18036462166674955922 tw7800007840728299118 tw18153984643674636359 tw1719467921873572317 tw10899287104891056479 tw60931919281831558 tw7697419950940576571 tw10957996099002150064 tw14205992187829090900 tw6316671378171069322 tw15375663419051698577 tw8519922844284405545 tw13720025865256844524 tw2229041867985533700 tw6774209447383187021 tw3689559991701020202 tw10256605350581563770 tw13247757703353579985 tw4964687236947363815 tw7299851049790374299 tw3531751485815837184 tw12396683930925358870 tw17942064614171114471 tw14772928736200118554 tw6376796314031714999 tw12182736821103755763 tw16177499057451626176 tw14071477195268163837 tw12792482940565395655 tw6478047895498562085 tw7658214416197255153 tw17128566112881822288 tw17475492604134159040 tw18142378370578468075 tw5941277003900220163 tw3667900938182142345 tw16518367053642688474 tw12202212080852436793 tw13362458495100143946 tw17943457773044977251 tw9615657402684929289 tw8386922481492527963 tw13619766241350632033 tw15662945417654297 tw7358568250896270520 tw7888961341587070569 tw1336554204583286281 tw10041250093055640911 tw6208327704124207053 tw2547591396805708611 tw16777033950578250146 tw13393424848821503160 tw6269091266469784867 tw7982434072328802009 tw10070333799802251750 tw12304415568826080227 tw17915731427889004671 tw4470860465363875086 tw15973645566242723783 tw817546241227558019 tw13121495158221458170 tw3378630278482506303 tw4140738942133146487 tw9473828930594999269 tw9256499692932347048 tw13819058952460674489 tw4765099229155577470 tw8373467697492399412 tw4954942932423704334 tw2422809061082714249 tw14414729229720213082 tw14883544263494146371 tw9953576495837696144 tw6320689570739777771 tw8415068772126412785 tw2021221241922836303 tw15983953450833642594 tw3710625101570171200 tw16083584521854031924 tw223044910563230537 tw2567901506769937847 tw12028266799173804279 tw13005174592178459340 tw15913095125538769945 tw550414474759080435 tw2430197318083184768 tw16176976023719827694 tw7780318812785830836 tw15247049617106862230 tw2365072463265204118 tw13471335255444902129 tw3752374818364943125 tw5513089456413969270 tw11482569098024767347 tw17283438564584890417 tw4029098673861632493 tw14910739842393655787 tw157389371664770026 tw8889678306448324196 tw2757566805048914030 tw10528256955393408499 tw9841404872442563232 tw9744173034047494150 tw6579289194066824405 tw6421157598963681524 tw15555220863740496764 tw14661271222487386279 tw7711726879047742234 tw1495082115359514990 tw15512166570790263453 tw4601091172042617861 tw4732004228145753587 tw17490445433156212626 tw18304306550798090147 tw2671675132364986051 tw16951939341375139510 tw14724091440549126897 tw1794584932819998678 tw4364362272870692607 tw13966157281990395311 tw206644285870970606 tw10249010307955505216 tw17483459003033549346 tw7781912875238513083 tw7813942081460061510 tw16195549357547689178 tw4509535396705370505 tw1437297474906080012 tw8853217933873568852 tw12393177845870688507 tw820386197483964630 tw10654738453408055188 tw5617223909583284709 tw2347366785051167499 tw17166961043737177372 tw10340423333144706758 tw8920617386126698096 tw8750462559963450416 tw8659449153209127085 tw14878030396560420895 tw9930374611986257552 tw14585153877200494269 tw1861827851721286195 tw7158062310659767905 tw4960839249128806229 tw6214000444566234486 tw13472564832246076327 tw12230131772340774681 tw10722344381226457891 tw8892207542221374265 tw2156655723400126619 tw4264736037526322279 tw2696330641898461701 tw10383225450103675823 tw18180193066787049447 tw16501538627985169394 tw11629040270593183630 tw2972854141203798767 tw3258374795467847932 tw13852549321964057071 tw4725138890496722021 tw4678318271115055628 tw13207020193946359160 tw2202606644333320590 tw4418651973651498951 tw11597003028186753964 tw3598387679740702746 tw9768317036787604506 tw10924150669245241488 tw16135253458327520204 tw8513549267663260978 tw14796563409044129250 tw7906768420514931897 tw6245195620549362330 tw2831786204591065376 tw15992361869227461173 tw8042667011030394981 tw12962351704024192302 tw8911311339288288358 tw2248027808178280669 tw17536901484194602793 tw4052496975795095010 tw13430578530427099409 tw17787704128505202273 tw1617876557353618325 tw10002226197311057072 tw5605559460857695911 tw14064740073250875970 tw3415177350908721052 tw2535783407504081796 tw14073896916774154093 tw14685161511942656097 tw576240531580689789 tw7348237108456485094 tw9198286434653336283 tw11372260539641046452 tw3324281922929778453 tw11593115280328848082 tw56228945911450000 tw8540422668541559694 tw660783156780398085 tw16179242890888665348 tw17856390347261139235 tw1958113323638432452 tw12326094791433360312 tw18356589812417007474 tw18154415160618820326 tw1759009732004532433 tw7541387547061121753 tw4553560587081575036 tw16903607188658311889 tw16156984864555692311 tw14515209410224590281 tw15429065234537228419 tw15905715286548047731 tw6237737015359185689 tw11286173437503807384 tw13294016958607691898 tw5739787137967702993 tw360307034786528729 tw13509944688739297523 tw17618347774085056847 tw18181819378610069622 tw12419787214158565715 tw7124152322000944014 tw1277686705556663982 tw7287659267878425223 tw11067213078753385726 tw17780478068928747566 tw11330314873475489935 tw5941385435862211911:True)
open PySem PySem.W PyProof.Rows
set_option maxRecDepth 100000 in
set_option maxHeartbeats 0 in
theorem PySem.Challenge.cw_layersplit_k23_shut_out_holds : PySem.Challenge.rw_layersplit_k23_shut_out.Holds := by
 w_on;o_law;k_head;(case hw=>w_witness2)
 k_fill
 refine L2.Fq (l:=PySem.Challenge.rw_layersplit_k23_shut_out) (n:=63) (k:=16) (x:="_law_script") (CX:=L2.dI) (sp:=My.FG) rfl (by decide) rfl ⟨rfl,by decide,by decide⟩ (λw h Y=>PySem.W.kIn_of Y) ?F ?S ?C
 case F=>
  intro w mg fa h KX G hmg;have T:∃a:My.jl,My.Txt (L2.KOf KX) mg a/\w.params=a.pm:=by
   dsimp only[L2.KOf]
   refine' My.MQ KX G ..
   rotate_left 30
   iterate 17(exact L2.He (by k_is))
   exact⟨by k_is,by k_is,by k_is,by k_is,by k_is,by k_is⟩
   iterate 3(exact L2.Dl (by k_is))
   exact⟨by k_is,by k_is,by k_is,by k_is,by k_is,by k_is⟩
   iterate 3(exact L2.Dl (by k_is))
   exact⟨by k_is,by k_is,by k_is,by k_is,by k_is,by k_is⟩
   iterate 7(exact L2.Dl (by k_is))
   exact⟨by k_is,by k_is,by k_is,by k_is,by k_is,by k_is⟩
   iterate 6(exact L2.Dl (by k_is))
   iterate 13(exact L2.Ox (by k_exc))
   iterate 41(exact L2.KZ (by k_is) (L2.CF (by k_is) (by k_is) (by k_is)))
   iterate 26(exact L2.Oc (by k_is) (by k_is) (L2.CF (by k_is) (by k_is) (by k_is)))
   iterate 15(exact L2.KZ (by k_is) (L2.CF (by k_is) (by k_is) (by k_is)))
   iterate 14(exact⟨_,by k_is⟩)
   exact L2.He (by k_is)
   k_is
   k_keys
   decide
   iterate 10(exact⟨_,by k_is⟩)
   exact L2.He (by k_is)
   k_is
   (repeat(first|exact .nil|refine .cons ⟨_,rfl⟩ ?_))
   k_is
   rfl;decide
   iterate 19(exact L2.Np (by k_is))
  obtain⟨a,T,hw⟩:=T;have e0:=hmg.symm.trans T.law.m;cases e0;exact⟨a.law.d,My.Ez T,λbase kb nb=>My.Mb T hw⟩
 case S=>exactλK H a ns hl hO hS=>My.Ey hl hS
 case C=>exactλ_ _ _ _ z=>z
#print axioms PySem.Challenge.cw_layersplit_k23_shut_out_holds
