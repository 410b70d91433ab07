import PyProof.Rows.All
import Wide.All
import OpenK.AllK
import Wide.FinOn
import Lean
import PyProof.EqAt
import PyProof.EqKinds
import PyProof.TupleCall
import PyProof.SetScanFacts
import PyProof.Logic
import PyProof.FactsBase
import PyProof.TableTree
import PyProof.FactsTree
import PyProof.PlainAttrs
import PyProof.DictWalks
import PyProof.SetKind
import PyProof.ForAny
import PyProof.FactsAll.set_1
import PyProof.CollectWalk
import PyProof.WalkLemmas
import PyProof.FactsAll.set_2
import PyProof.Walk
import PyProof.Rows.SortStr
import KE.KRevIter
import KE.KDictList
import KE.KDictLaws
import PyProof.FString
import OpenK.KTop
import PyProof.StrLawsTight
import PyProof.Rows.StrLawsPart
import KE.KIntText
import PyProof.Rows.StrSplitJoin
import PyProof.ZipIter
import PyProof.WalksMore
import KE.IntTextLaws
import KE.KDictOf
import PyProof.AttrMissHeap
import PyProof.EnumMake
import PyProof.EnumFor
import PyProof.Draws
import PyProof.DictItems
import KE.KPairComp
import KE.KSortTup
import PyProof.Rows.SortWalk
import PySem.Challenge.RW_layersplit_k31_points_counted
set_option Elab.async false
set_option linter.all false
set_option maxRecDepth 100000
set_option compiler.extract_closed false
def a_:=@PySem.wpAny_bind
def b_:=@PySem.Heap.get?_push_of_some
def c_:=@List.length_map
def d_:=@List.getElem?_eq_some_iff
def e_:=@PySem.wpAny_pure
def f_:=@Nat.le_refl
def g_:=@PySem.Heap.get?_push_size
def h_:=@List.getElem?_eq_getElem
def i_:=@List.mem_of_getElem?
def j_:=@List.getElem?_map
def kl:=@PySem.Heap.lt_size
def kt:=@List.length_append
def ku:=@if_neg
def kw:=@if_pos
def k4:=@List.mem_cons_of_mem
def k_:=@List.map_append
def lh:=@List.size_toArray
def lm:=@PySem.sizeLine_eq
def l_:=@Nat.ne_of_lt
def mm:=@List.mem_cons_self
def mo:=@Bool.false_ne_true
def mu:=@List.take_of_length_le
def m3:=@List.mem_iff_getElem?
def m_:=@Option.some.inj
def nk:=@List.mem_map
def nn:=@decide_eq_true
def no:=@decide_eq_false
def n0:=@Nat.zero_le
def n7:=@Nat.le_trans
def n_:=@Array.length_toList
def oe:=@List.length_take
def oi:=@List.not_mem_nil
def ol:=@List.length_cons
def op:=@PySem.Heap.size_push
def ot:=@Int.toNat_natCast
def ov:=@Nat.ne_of_gt
def oD:=@List.map_cons
def o0:=@Bool.and_eq_true
def o_:=@PySem.PassesOwn.never
def pa:=@List.getElem?_eq_none
def pu:=@Nat.lt_of_lt_of_le
def pv:=@Ne.symm
def pw:=@List.mem_cons
def p_:=@PySem.wpAny_holding
def qc:=@List.mem_append_right
def qq:=@PySem.wpAny_setField_rec
def qr:=@PySem.wpAny_call_entry
def qx:=@PySem.wpAny_callSpecial?_slot
def q4:=@PySem.wpAny_newObj_type
def q_:=@List.mem_range
def rd:=@List.length_range
def ri:=@Nat.lt_irrefl
def rk:=@PySem.Calls.spliced_cons
def rl:=@PySem.wpAny_seqItems
def rm:=@of_decide_eq_true
def rr:=@List.nodup_append
def rx:=@PySem.wpAny_field
def ry:=@List.getElem?_set_ne
def rV:=@Nat.lt_succ_self
def r3:=@Nat.le_succ
def r4:=@PySem.wpAny_truthy_bool
def r_:=@Nat.lt_succ_of_lt
def sg:=@Nat.le_succ_of_le
def si:=@List.find?_cons
def sm:=@PySem.Calls.callWith_builtin
def so:=@List.getElem?_append_left
def sD:=@List.replicate_succ
def sT:=@Sum.inr.inj
def s_:=@PySem.Heap.get?_update_self
def ta:=@PySem.wpAny_ite_split
def tl:=@Nat.le_of_lt
def to:=@PySem.wpAny_Call_Name_kw
def tx:=@Int.natCast_nonneg
def tA:=@congrArg
def t0:=@beq_self_eq_true
def t1:=@PySem.codeAny_mono
def t2:=@PySem.Heap.get?_update_other
def t_:=@PySem.Calls.spliced_nil
def u1:=@PySem.codeAny_builtin
def u_:=@List.length_set
def vl:=@Array.getElem?_eq_getElem
def vr:=@or_false
def vu:=@List.take_append_drop
def v1:=@List.length_filter_le
def v_:=@Array.getElem?_toList
def wh:=@PySem.wpAny_rule
def wr:=@Nat.succ_le_succ
def w1:=@List.map_map
def w_:=@PySem.Calls.evalArgs_plain
def x_:=@PySem.Around.under_plainId
def yl:=@List.take_add_one
def y2:=@List.ext_getElem?
def y_:=@PyProof.Rows.F.plain_set_update_loop
def zz:=@List.mem_filter
def z0:=@List.foldl_cons
def z3:=@PyProof.Rows.callWith_type1
def z4:=@PySem.wpAny_pyIter_tuple
def z7:=@List.getElem?_append_right
def z8:=@List.getD_eq_getElem?_getD
def z_:=@Int.emod_lt_of_pos
def A_:=@PySem.wpAny_dictEpoch
def B_:=@List.append_nil
def C_:=@Nat.lt_trans
def D2:=@List.mem_append_left
def D_:=@List.any_cons
def Es:=@beq_eq_false_iff_ne
def E1:=@PySem.Heap.SameBut.update
def E_:=@PySem.tupleKind_room_in1
def F_:=@PySem.call_meetsIn
def G_:=@List.getElem?_set_self
def H_:=@PySem.wpAny_execs_nil
def I_:=@Int.emod_nonneg
def J_:=@PySem.wpAny_setState_of
def K_:=@PySem.wpAny_pyIter_list
def L_:=@PySem.wpAny_loadPart_at
def M_:=@List.foldl_append
def N_:=@List.flatten_cons
def O_:=@Nat.pow_le_pow_right
def P9:=@List.take_zero
def P_:=@List.nodup_iff_pairwise_ne
def Qa:=@PySem.Heap.get?_push_cases
def Qb:=@PySem.F.slot_tuple_iterator_next
def Qc:=@PySem.wpAny_askSetting
def Qd:=@List.getElem?_eq_none_iff
def Qe:=@PySem.wpAny_isSubtype_exc
def Qf:=@List.map_congr_left
def Qg:=@PySem.plainId_quiet
def Qh:=@Option.isSome_iff_exists
def Qi:=@Option.map_some
def Qj:=@PySem.F.slot_zip_next
def Qk:=@Bool.false_eq_true
def Ql:=@PySem.wpAny_getItem_str_slice
def Qm:=@PyProof.Rows.F.entry_set_update_loop
def Qn:=@PySem.wpAny_Call_method
def Qo:=@Nat.le_of_eq
def Qp:=@List.getElem?_inj
def Qq:=@PySem.builtinLookup_eq_fast
def Qr:=@List.length_replicate
def Qs:=@PySem.wpAny_isInstance
def Qt:=@Nat.le_of_not_lt
def Qu:=@Nat.le_add_right
def Qv:=@List.mem_reverse
def Qw:=@List.length_drop
def Qx:=@List.getElem_mem
def Qy:=@PySem.wpAny_attempt
def Qz:=@List.all_cons
def QA:=@PySem.wpAny_updateSeq_pair
def QB:=@Prod.mk.inj
def QC:=@List.mem_of_mem_take
def QD:=@PySem.wpAny_passesOwn
def QE:=@List.of_mem_zip
def QF:=@List.forIn_cons
def QG:=@PySem.wpAny_setEntries_of
def QH:=@Nat.mul_le_mul_left
def QI:=@List.length_reverse
def QJ:=@List.filterMap_cons
def QK:=@Nat.succ_pos
def QL:=@Nat.lt_of_le_of_lt
def QM:=@List.nodup_nil
def QN:=@List.mem_filterMap
def QO:=@List.map_singleton
def QP:=@List.contains_cons
def QQ:=@Int.fdiv_eq_ediv_of_nonneg
def QR:=@List.mem_or_eq_of_mem_set
def QS:=@Option.some.injEq
def QT:=@List.take_sublist
def QU:=@List.getElem?_set
def QW:=@List.append_assoc
def QX:=@PySem.wpAny_onRaise
def QY:=@List.getElem?_take_of_lt
def QZ:=@List.filterMap_cons_none
def Q0:=@PySem.AutoSeq1.wpAny_loadPart'
def Q1:=@PySem.wpAny_pyIter_zip
def Q2:=@PySem.wpAny_execs_cons
def Q3:=@PySem.wpAny_eqBool_str
def Q4:=@if_false
def Q5:=@Nat.le_max_right
def Q6:=@List.lookup_cons
def Q7:=@List.length_eq_zero_iff
def Q8:=@List.filter_cons
def Q9:=@List.any_eq_true
def Q_:=@PySem.wpAny_call
def Ra:=@Nat.pow_succ
def Rb:=@Nat.lt_or_ge
def Rc:=@PySem.wpAny_specialOf
def Re:=@PySem.typeLookup_type
def Rf:=@PySem.post_val_or_str
def Rg:=@PySem.codeAny_of_tree
def Rh:=@Nat.le_max_left
def Ri:=@List.range_succ
def Rj:=@Bool.eq_iff_iff
def Rk:=@PySem.weight_type_call_type
def Rm:=@List.getElem?_toArray
def Rn:=@List.filterMap_append
def Rp:=@PySem.wpAny_runValue
def Rq:=@PySem.wpAny_letGo
def Rr:=@PySem.isSubtype_type
def Rs:=@PySem.codeAny_call_builtin
def Rt:=@Nat.mul_le_mul
def Rv:=@List.Perm.refl
def Rw:=@if_true
def Rx:=@List.getElem?_range
def Ry:=@Int.toNat_of_nonneg
def Rz:=@List.map_take
def RA:=@List.getElem?_drop
def RB:=@List.filter_append
def RC:=@PySem.Code.quiet_builtin
def RD:=@PySem.Around.under_plain
def RE:=@PySem.wpAny_typeOf
def RF:=@PySem.wpAny_pyIter_slot
def RG:=@Option.isSome_map
def RH:=@Nat.le_of_lt_succ
def RI:=@Nat.add_zero
def RJ:=@List.Sublist.refl
def RK:=@Int.emod_eq_of_lt
def RL:=@Int.add_zero
def RM:=@PySem.F.entry_type_call
def RN:=@PySem.F.args_zip_next_1
def RO:=@Array.toList_push
def RP:=@PyProof.Rows.slot_tuple_getitem
def RQ:=@PySem.wpAny_forIn_list
def RR:=@PySem.check_set_init_1
def RS:=@List.zipIdx_cons
def RT:=@List.getElem_map
def RU:=@PySem.F.typeCall_set_1
def RV:=@PySem.F.entry_zip_next
def RW:=@PySem.F.entry_set_init
def RX:=@Int.le_refl
def RY:=@PySem.wpAny_updateSeq
def RZ:=@beq_false_of_ne
def R0:=@Nat.not_lt_zero
def R1:=@Nat.le_add_left
def R3:=@List.zipIdx_nil
def R4:=@List.nodup_cons
def R5:=@List.Perm.of_eq
def R6:=@PySem.F.args_tuple_iterator_next_1
abbrev R7:=PySem.W.Frag
abbrev R8:=PySem.Value->PySem.Shared->Prop
abbrev R9:=List (PySem.Addr×PySem.Obj)
abbrev R_:=PySem.Str->Option PySem.Value
abbrev Sa:=List PySem.Value
abbrev Sb:=PySem.Program
abbrev Sc:=List PySem.Str
abbrev Sd:=List PySem.Expr
abbrev Se:=Array PySem.Value
abbrev Sf:=List Nat
abbrev Sg:=List PySem.Addr
abbrev Sh:=List Int
namespace L2
open PySem PySem.Spec PyProof.Rows
abbrev cg:=Sum Int Str
def nH:cg->Value->Bool|.inl k,v=>Value.isInt k v|.inr x,v=>Value.isStrOf x v
def PL(w:World):cg->Int|.inl k=>hashInt k|.inr x=>hashStr w x
def cC:∀{k:cg}{v:Value},nH k v=true->(∃i t,k=Sum.inl i/\v=Value.int i t)\/(∃x t,k=Sum.inr x/\v=Value.str x t)|.inl i,v,h=>by obtain⟨t,e⟩:=Value.isInt_shape (k:=i) (v:=v) h;exact .inl ⟨i,t,rfl,e⟩|.inr x,v,h=>by obtain⟨t,e⟩:=Value.isStrOf_shape (x:=x) (v:=v) h;exact .inr ⟨x,t,rfl,e⟩
def xH(i:Int)(t:Tok):nH (.inl i) (.int i t)=true:=by simp[nH,Value.isInt]
def xG(x:Str)(t:Tok):nH (.inr x) (.str x t)=true:=by simp[nH,Value.isStrOf]
def MT(a b:Int):decide ((Sum.inl a:cg)=Sum.inl b)=(a==b):=by
 by_cases e:a=b
 ·subst e;simp
 ·have h:¬(Sum.inl a:cg)=Sum.inl b:=λq=>e (Sum.inl.inj q);rw[no h];exact(Es.mpr e).symm
def MQ(a b:Str):decide ((Sum.inr a:cg)=Sum.inr b)=decide (a=b):=by
 by_cases e:a=b
 ·subst e;simp
 ·have h:¬(Sum.inr a:cg)=Sum.inr b:=λq=>e (sT q);rw[no h,no e]
def MS(a:Int)(b:Str):decide ((Sum.inl a:cg)=Sum.inr b)=false:=no (nofun)
def MR(a:Str)(b:Int):decide ((Sum.inr a:cg)=Sum.inl b)=false:=no (nofun)
def aK(prog:Sb)(w:World):PySem.KeyKind prog w cg where
 is:=nH
 hash:=PL w
 inj:=λv a b g f=>by
  rcases cC g with⟨i,t,rfl,rfl⟩|⟨x,t,rfl,rfl⟩
  ·rcases cC f with⟨j,u,rfl,e⟩|⟨y,u,rfl,e⟩
   ·injection e with c _;rw[c]
   ·exact nomatch e
  ·rcases cC f with⟨j,u,rfl,e⟩|⟨y,u,rfl,e⟩
   ·exact nomatch e
   ·injection e with c _;rw[c]
 byValue:=λk v h=>by rcases cC h with⟨i,t,rfl,rfl⟩|⟨x,t,rfl,rfl⟩<;>rfl
 pyHash:=λd h=>by
  rcases cC d with⟨i,t,rfl,rfl⟩|⟨x,t,rfl,rfl⟩
  ·exact wpAny_pyHash_int h
  ·exact wpAny_pyHash_str h
 eqBool:=λl d h=>by
  rcases cC l with⟨i,t,rfl,rfl⟩|⟨x,t,rfl,rfl⟩
  ·rcases cC d with⟨j,u,rfl,rfl⟩|⟨y,u,rfl,rfl⟩
   ·rw[MT]at h;exact wpAny_eqBool_int h
   ·rw[MS]at h;exact SeqAt.EqAt.int_str i t y u _ _ _ _ h
  ·rcases cC d with⟨j,u,rfl,rfl⟩|⟨y,u,rfl,rfl⟩
   ·rw[MR]at h;exact SeqAt.EqAt.str_int x t j u _ _ _ _ h
   ·rw[MQ]at h;exact Q3 h
 «strs»:=λk x t v h=>by
  rcases cC h with⟨i,u,rfl,e⟩|⟨y,u,rfl,e⟩
  ·exact nomatch e
  ·injection e with c _
   subst c
   cases v<;>rfl
def oF(prog:Sb)(w:World)(k:cg)(v:Value):(aK prog w).is k v=nH k v:=rfl
def AU(prog:Sb)(w:World)(i:Int)(t:Tok):(aK prog w).is (.inl i) (.int i t)=true:=xH i t
def sw(prog:Sb)(w:World)(x:Str)(t:Tok):(aK prog w).is (.inr x) (.str x t)=true:=xG x t
end L2
namespace L2
open PySem PySem.Spec PyProof.Rows
inductive V where|non|bl(b:Bool)|int(i:Int)|str(x:Str)|byt(b:Array UInt8)|flt(b:UInt64)|ref(a:Addr)|ty(n:String)deriving DecidableEq
def aU:V->Value->Prop|.non,u=>u=Value.none|.bl b,u=>u=Value.bool b|.int i,u=>∃t,u=Value.int i t|.str x,u=>∃t,u=Value.str x t|.byt b,u=>∃t,u=Value.bytes b t|.flt b,u=>∃t,u=Value.float b t|.ref a,u=>u=Value.ref a|.ty n,u=>u=Value.type n
abbrev a9:List V->List Value->Prop:=Paired aU
theorem a9.length(r:a9 a c):a.length=c.length:=Paired.length r
theorem a9.get:∀{a:List V}{c:Sa}{i:Nat}{x:V},a9 a c->a[i]?=some x->∃u,c[i]?=some u/\aU x u|_,_,_,_,.nil,e=>by simp at e|_,_,0,_,.cons r _,e=>by simp at e;subst e;exact⟨_,rfl,r⟩|_,_,i+1,x,.cons _ t,e=>by obtain⟨u,h1,h2⟩:=a9.get (i:=i) (x:=x) t (by simpa using e);exact⟨u,by simpa using h1,h2⟩
theorem a9.set(r:aU x u):∀{a:List V}{c:Sa}(i:Nat),a9 a c->a9 (a.set i x) (c.set i u)|_,_,_,.nil=>.nil|_,_,0,.cons _ t=>.cons r t|_,_,i+1,.cons q t=>.cons q (a9.set r i t)
theorem a9.append:∀{a c:List V}{d e:Sa},a9 a d->a9 c e->a9 (a++c) (d++e)|_,_,_,_,.nil,s=>s|_,_,_,_,.cons r t,s=>.cons r (a9.append t s)
theorem a9.take:∀{a:List V}{c:Sa}(n:Nat),a9 a c->a9 (a.take n) (c.take n)|_,_,0,_=>.nil|_,_,_+1,.nil=>.nil|_,_,n+1,.cons r t=>.cons r (a9.take n t)
theorem a9.drop:∀{a:List V}{c:Sa}(n:Nat),a9 a c->a9 (a.drop n) (c.drop n)|_,_,0,r=>r|_,_,_+1,.nil=>.nil|_,_,n+1,.cons _ t=>a9.drop n t
def k7:Option V->Option Value->Prop|some v,some u=>aU v u|none,none=>True|_,_=>False
def KV{a:Type}:List (a×V)->List (a×Value)->Prop:=Paired λ(p:a×V)(q:a×Value)=>p.1=q.1/\aU p.2 q.2
def kV:cg->V|.inl i=>.int i|.inr x=>.str x
inductive HO where|lst(xs:List V)|tup(xs:List V)|dK(kvs:List (cg×V))|dT(kvs:List (List cg×V))|set(S:Int->Bool)(n:Nat)|ins(C dx:Addr)(fs:List (Str×V))|own(x:Addr)|xd(fs:List (Str×V))|met(f x:Addr)|rng(lo hi:Int)|frz(o:Obj)(u:HO)|tbl(ps:Se)|ext(φ:Heap->Prop)
abbrev Hp:=Addr->Option HO
def aA(H:Hp)(a:Addr)(o:HO):Hp:=λb=>if b=a then some o else H b
def ae:aA H a o a=some o:=by unfold aA;rw[kw rfl]
def ak(h:b≠a):aA H a o b=H b:=by unfold aA;rw[ku h]
def fZ:aA (aA H a o) a u=aA H a u:=by funext b;unfold aA;split<;>rfl
def Ov{H:Hp}{a b:Addr}{o u:HO}(h:H a=some o)(h':H b=some u)(d:o≠u):a≠b:=by intro e;subst e;rw[h]at h';exact d (m_ h')
def aD{H:Hp}{a b:Addr}{o:HO}(h:H a=some o)(h':H b=none):a≠b:=by intro e;subst e;rw[h]at h';cases h'
section
variable(P:Sb)(w:World)
def cX(H:Hp)(h:Heap)(a:Addr):HO->Prop|.lst d=>d.length<=sizeLine/\∃(b:Sa)(n:Nat),a9 d b/\h.get? a=some {cls:=.type "list",data:=.seq b.toArray n}|.tup d=>d.length<=sizeLine/\∃b:List Value,a9 d b/\IsTup h a b.toArray|.dK c=>c.length<=sizeLine/\(a==sysModules)=false/\∃g,KV c g/\h.DictOf (aK P w) a g|.dT c=>c.length<=sizeLine/\(a==sysModules)=false/\∃d:List (List cg×Addr×Value),Paired (λ(p:List cg×V)(q:List cg×Addr×Value)=>p.1=q.1/\H q.2.1=some (.tup (p.1.map kV))/\aU p.2 q.2.2) c d/\∃o i j,h.get? a=some o/\o.ExactDict/\o.data=.dict i j/\i.toList=d.map (entryOfKey (tupleKind (aK P w)))/\(d.map (·.1)).Nodup|.set S n=>h.SetOf (intKind P w) a S n|.ins C dx fs=>H dx=some (.own a)/\fs.length<=1000/\dx≠a/\h.get? a=some (PySem.W.instObj C dx)/\∃e,h.Ns1 dx e/\(∀f,k7 (fs.lookup f) (e f))/\PySem.Within e (fs.map (·.1))|.own _=>∃o,h.get? a=some o|.xd fs=>∃e,h.Ns1 a e/\∀f,k7 (fs.lookup f) (e f)|.rng lo hi=>∃t u v,h.get? a=some {cls:=.type "range",data:=.fields #[.int lo t,.int hi u,.int 1 v]}|.frz o u=>h.get? a=some o/\cX H h a u|.tbl k=>h.get? a=some {cls:=.none,data:=.fields k}|.met f x=>h.get? a=some (PySem.W.methodObj (.ref f) (.ref x))|.ext φ=>φ h/\(∃o,h.get? a=some o)/\∀h1 h2:Heap,φ h1->(∀o,h1.get? a=some o->h2.get? a=some o)->φ h2
def lY(H:Hp)(h:Heap):Prop:=∀a o,H a=some o->cX P w H h a o
end
section
variable{P:Sb}{w:World}{H g:Hp}{h h':Heap}{a:Addr}{o:HO}
theorem cX.lt(x:cX P w H h a o):a<h.objs.size:=by cases o with|lst c=>obtain⟨_,_,_,_,e⟩:=x;exact kl e|tup c=>obtain⟨_,_,_,p⟩:=x;exact p.lt|dK b=>obtain⟨_,_,_,_,o,_,_,e,_⟩:=x;exact kl e|dT b=>obtain⟨_,_,_,_,o,_,_,e,_⟩:=x;exact kl e|set S n=>obtain⟨o,_,_,_,e,_⟩:=x;exact kl e|ins C dx fs=>obtain⟨_,_,_,e,_⟩:=x;exact kl e|own y=>obtain⟨_,e⟩:=x;exact kl e|xd fs=>obtain⟨_,⟨_,_,_,e,_⟩,_⟩:=x;exact kl e|rng lo hi=>obtain⟨_,_,_,e⟩:=x;exact kl e|frz ob u=>obtain⟨e,_⟩:=x;exact kl e|tbl d=>exact kl (show h.get? a=some _ from x)|met f y=>exact kl (show h.get? a=some _ from x)|ext φ=>obtain⟨_,⟨_,e⟩,_⟩:=x;exact kl e
theorem Paired.mapP:∀{c:List e}{d:List i},Paired F c d->(∀a b,F a b->G a b)->Paired G c d|_,_,.nil,_=>.nil|_,_,.cons r t,f=>.cons (f _ _ r) (Paired.mapP t f)
def cX.stay(x:cX P w H h a o)(k:∀b u,(b=a\/H b=some (.own a))->h.get? b=some u->h'.get? b=some u)(E:∀b,H b=some (.own a)->g b=some (.own a))(F:∀b s,H b=some (.tup s)->g b=some (.tup s)):cX P w g h' a o:=by induction o with|lst s=>obtain⟨z,l,n,r,e⟩:=x;exact⟨z,l,n,r,k _ _ (.inl rfl) e⟩|tup s=>obtain⟨z,l,r,ob,e,c⟩:=x;exact⟨z,l,r,ob,k _ _ (.inl rfl) e,c⟩|dK m=>obtain⟨z,y,G,r,ob,i,j,e,c⟩:=x;exact⟨z,y,G,r,ob,i,j,k _ _ (.inl rfl) e,c⟩|dT m=>obtain⟨z,y,s,r,ob,i,j,e,c⟩:=x;exact⟨z,y,s,Paired.mapP r λp q z=>⟨z.1,F _ _ z.2.1,z.2.2⟩,ob,i,j,k _ _ (.inl rfl) e,c⟩|set S n=>obtain⟨ob,i,j,t,e,c⟩:=x;exact⟨ob,i,j,t,k _ _ (.inl rfl) e,c⟩|ins C dx fs=>obtain⟨d,z,ne,e,A,⟨B,i,j,I,c⟩,r⟩:=x;exact⟨E _ d,z,ne,k _ _ (.inl rfl) e,A,⟨B,i,j,k _ _ (.inr d) I,c⟩,r⟩|own y=>obtain⟨ob,e⟩:=x;exact⟨ob,k _ _ (.inl rfl) e⟩|xd fs=>obtain⟨A,⟨B,i,j,e,c⟩,r⟩:=x;exact⟨A,⟨B,i,j,k _ _ (.inl rfl) e,c⟩,r⟩|rng lo hi=>obtain⟨t,u,v,e⟩:=x;exact⟨t,u,v,k _ _ (.inl rfl) e⟩|frz ob u J=>obtain⟨e,q⟩:=x;exact⟨k _ _ (.inl rfl) e,J q⟩|tbl D=>have e:h.get? a=some {cls:=.none,data:=.fields D}:=x;show h'.get? a=some {cls:=.none,data:=.fields D};exact k a _ (.inl rfl) e|met f y=>have e:h.get? a=some (PySem.W.methodObj (.ref f) (.ref y)):=x;show h'.get? a=some (PySem.W.methodObj (.ref f) (.ref y));exact k a _ (.inl rfl) e|ext φ=>obtain⟨p,⟨o,e⟩,st⟩:=x;exact⟨st _ _ p λo q=>k _ _ (.inl rfl) q,⟨o,k _ _ (.inl rfl) e⟩,st⟩
theorem lY.lt(x:lY P w H h)(e:H a=some o):a<h.objs.size:=(x a o e).lt
def lY.fresh(x:lY P w H h)(e:h.objs.size<=a):H a=none:=by cases q:H a with|none=>rfl|some u=>exact absurd (pu (x.lt q) e) (ri _)
def lY.kept(x:lY P w H h)(k:∀b u,h.get? b=some u->h'.get? b=some u):lY P w H h':=λa o e=>(x a o e).stay (λb u _ q=>k b u q) (λ_ q=>q) λ_ _ q=>q
def lY.laid(x:lY P w H h)(k:∀b u,h.get? b=some u->h'.get? b=some u)(f:h.objs.size<=a)(new:cX P w (aA H a o) h' a o):lY P w (aA H a o) h':=λb u e=>by
 have hn:=x.fresh f
 by_cases d:b=a
 ·subst d;rw[ae]at e;cases e;exact new
 ·rw[ak d]at e;exact(x b u e).stay (λc v _ q=>k c v q) (λc q=>by rw[ak (aD q hn)];exact q) λc i q=>by rw[ak (aD q hn)];exact q
end
def Rd(H:Hp)(a:Addr)(u:HO):Prop:=H a=some u\/∃o,H a=some (.frz o u)
def Rd.ok(r:Rd H a u)(x:lY P w H h):cX P w H h a u:=by
 rcases r with r|⟨o,r⟩
 ·exact x a u r
 ·obtain⟨_,q⟩:=x a _ r;exact q
def O2:Option HO->Prop|some (.lst _)=>True|some (.dK _)=>True|some (.dT _)=>True|some (.set _ _)=>True|some (.ins _ _ _)=>True|some (.ext _)=>True|_=>False
section
variable{P:Sb}{w:World}{H:Hp}{h h':Heap}{x e:Addr}{a:HO}
def lY.write(ok:lY P w H h)(g:O2 (H x))(n:e=x\/H e=some (.own x))(k:∀b u,b≠e->h.get? b=some u->h'.get? b=some u)(l:∃u,h'.get? e=some u)(new:cX P w (aA H x a) h' x a):lY P w (aA H x a) h':=λb u q=>by
 have f:∀c y,H c=some (.own y)->c≠x:=λc y r z=>by subst z;rw[r]at g;exact g
 have ntup:∀c i,H c=some (.tup i)->c≠x:=λc i r z=>by subst z;rw[r]at g;exact g
 by_cases j:b=x
 ·subst j;rw[ae]at q;cases q;exact new
 ·rw[ak j]at q
  by_cases d:b=e
  ·have m:H b=some (.own x):=by
    rcases n with z|z
    ·exact absurd (d.trans z) j
    ·rw[d];exact z
   rw[q]at m;cases m;obtain⟨v,o⟩:=l;exact⟨v,by rw[d];exact o⟩
  ·refine(ok b u q).stay (λc v hc r=>k c v ?_ r) (λc r=>by rw[ak (f c b r)];exact r) λc i r=>by rw[ak (ntup c i r)];exact r
   rcases hc with rfl|hc
   ·exact d
   ·rintro rfl;rcases n with z|z
    ·exact f c b hc z
    ·rw[hc]at z;cases z;exact j rfl
end
structure Un(fs ex:Sg)(H H':Hp)(h h':Heap):Prop where
 keep:∀b o,h.get? b=some o->H b=none->b∉fs->b∉ex->h'.get? b=some o
 slot:∀b o,h.get? b=some o->H b=none->b∈fs->b∉ex->∃sl,h'.get? b=some {o with slots:=sl}free:∀b o,h.get? b=some o->H b=none->b∉ex->H' b=none
 there:∀b o,h.get? b=some o->b∉ex->∃o',h'.get? b=some o'
 tups:∀b xs,H b=some (.tup xs)->H' b=some (.tup xs)frzs:∀b o u,H b=some (.frz o u)->H' b=some (.frz o u)tbls:∀b ps,H b=some (.tbl ps)->∃more,H' b=some (.tbl (ps++more))
section
variable{fs f ex d:Sg}{H c g:Hp}{h h1 h2 h':Heap}{a x e:Addr}{o:HO}
def Un.any(u:Un fs ex H c h h1){b:Addr}{ob:Obj}(q:h.get? b=some ob)(n:H b=none)(i:b∉ex):∃sl,h1.get? b=some {ob with slots:=sl}:=by
 by_cases j:b∈fs
 ·exact u.slot b ob q n j i
 ·exact⟨ob.slots,u.keep b ob q n j i⟩
def Un.kept(k:∀b u,h.get? b=some u->h'.get? b=some u):Un fs ex H H h h':=⟨λb ob q _ _ _=>k b ob q,λb ob q _ _ _=>⟨ob.slots,k b ob q⟩,λ_ _ _ n _=>n,λb ob q _=>⟨ob,k b ob q⟩,λ_ _ q=>q,λ_ _ _ q=>q,λ_ i q=>⟨#[],by rw[q];simp⟩⟩
def Un.refl:Un fs ex H H h h:=Un.kept λ_ _ q=>q
def Un.laid(k:∀b u,h.get? b=some u->h'.get? b=some u)(i:h.objs.size<=a)(hn:H a=none):Un fs ex H (aA H a o) h h' where
 keep:=λb u q _ _ _=>k b u q
 slot:=λb u q _ _ _=>⟨u.slots,k b u q⟩
 free:=λb u q n _=>by rw[ak (l_ (pu (kl q) i))];exact n
 there:=λb u q _=>⟨u,k b u q⟩
 tups:=λb j q=>by rw[ak (aD q hn)];exact q
 frzs:=λb u j q=>by rw[ak (aD q hn)];exact q
 tbls:=λb l q=>⟨#[],by rw[ak (aD q hn),q];simp⟩
def Un.write(j:O2 (H x))(s:e=x\/H e=some (.own x))(k:∀b u,b≠e->h.get? b=some u->h'.get? b=some u)(l:∃u,h'.get? e=some u):Un fs ex H (aA H x o) h h':=by
 have m:∀b,H b=none->b≠x:=λb n z=>by subst z;rw[n]at j;exact j
 have p:∀b,H b=none->b≠e:=λb n z=>by
  subst z;rcases s with r|r
  ·exact m b n r
  ·rw[n]at r;cases r
 have hm:∀b u,H b=some u->¬O2 (some u)->b≠x:=λb u q nm z=>by subst z;rw[q]at j;exact nm j
 refine⟨λb u q n _ _=>k b u (p b n) q,λb u q n _ _=>⟨u.slots,k b u (p b n) q⟩,λb u q n _=>by rw[ak (m b n)];exact n,λb u q _=>?_,λb t q=>by rw[ak (hm b _ q λz=>z)];exact q,λb u t q=>by rw[ak (hm b _ q λz=>z)];exact q,λb v q=>⟨#[],by rw[ak (hm b _ q λz=>z),q];simp⟩⟩
 by_cases i:b=e
 ·subst i;exact l
 ·exact⟨u,k b u i q⟩
end
def Pd(h:Heap)(H:Hp):List Addr:=(List.range h.objs.size).filter λa=>(H a).isSome
def zh(h:Heap)(H:Hp):Heap:=PySem.W.hideAll h (Pd h H)
def Fa(h:Heap)(H:Hp):(zh h H).objs.size=h.objs.size:=PySem.W.hideAll_size _ _
def HU(e:h.get? b=some o)(n:H b=none):(zh h H).get? b=some o:=PySem.W.hideAll_get _ e λhm=>by have q:(H b).isSome=true:=(zz.mp hm).2;rw[n]at q;simp at q
def Kj(e:(zh h H).get? b=some o):h.get? b=some o/\H b=none:=by have a:h.get? b=some o:=PySem.W.of_hideAll (Pd h H) e;refine⟨a,?_⟩;cases q:H b with|none=>rfl|some x=>have hm:b∈Pd h H:=zz.mpr ⟨q_.mpr (kl a),by simp[q]⟩;have z:(zh h H).get? b=none:=PySem.W.hideAll_none (Pd h H) hm;rw[z]at e;cases e
def K6(g h:Heap)(L:Addr):List (Addr×Obj):=(List.range h.objs.size).filterMap λa=>if a=L\/(g.get? a).isSome=true then none else(h.get? a).map λo=>(a,o)
def mj(g h:Heap)(L d:Addr):List (Addr×Obj):=(K6 g h L).filter λp=>decide (p.1≠d)
end L2
namespace L2
open PySem PySem.Spec PyProof.Rows
structure O3(K:R7)(mg:R_)(base:Heap):Prop where
 kin:K.In base
 glob:base.Ns mainGlobals mg
 blt:∃mb,base.Ns builtinsNs mb/\∀x:Str,x≠"__name__"->mb x=bootBuiltins x
 nolimit:base.NoLimit
structure Cx where
 prog:Program
 w:World
 K:R7
 mg:Str->Option Value
 base:Heap
 A:Around
 N:List Str
 s₀:Shared
 H₀:Hp
 env:Env
 outer:List Env
 stack:List Env
 ex:List Addr
 fn:Str->Bool
 calm:Bool
 pn:List (Addr×Obj)xe:Value->Shared->Prop
def jG(l:List Env):List Addr:=l.filterMap (·.frame)
abbrev Cx.fs(X:Cx):List Addr:=jG X.outer
def Pi(a:Scope)(x:Str):Prop:=a.names.lookup x=some .local\/a.names.lookup x=some .cell\/a.names.lookup x=some .free
def NJ(a:Scope)(x:Str):Prop:=a.names.lookup x=some .local\/a.names.lookup x=some .cell
def P3(env:Env)(h:Heap)(m:R_)(x:Str)(u:Value):Prop:=(env.kindOf x=some .local/\m x=some u)\/((env.kindOf x=some .cell\/env.kindOf x=some .free)/\∃c,env.cells.lookup x=some c/\h.IsCell c (some u))
structure Cx.Ok(X:Cx):Prop where
 mod:O3 X.K X.mg X.base
 kind:X.env.scope.kind=.function
 glob:X.env.globals=mainGlobals
 blt:X.env.builtins=builtinsNs
 above:X.s₀.heap.objs.size<=X.env.locals
 inj:∀x y c,X.env.cells.lookup x=some c->X.env.cells.lookup y=some c->x=y
 has:∀x,(X.env.kindOf x=some .cell\/X.env.kindOf x=some .free)->∃c,X.env.cells.lookup x=some c
 cab:∀x c,X.fn x=true->X.env.cells.lookup x=some c->X.s₀.heap.objs.size<=c
 hd:X.calm=true->X.A.handled=none
 frames:X.A.frames=some X.stack
 stk:X.stack=X.outer\/(X.stack=X.env::X.outer/\X.env.frame=some X.env.locals)exf:∀b∈X.ex,b≠X.env.locals/\∀x c,X.env.cells.lookup x=some c->c≠b
 bs:∀b o,X.base.get? b=some o->X.s₀.heap.get? b=some o/\X.H₀ b=none
 bsz:X.base.objs.size<=X.s₀.heap.objs.size
 noex:∀b o,X.base.get? b=some o->b∉X.ex
 exfs:∀b∈X.ex,b∉X.fs
 funs:X.s₀.heap.FunFrames X.base X.outer
 frf:∀b∈X.fs,X.H₀ b=none
structure aL(X:Cx)(pins:R9)(σ:List (Option V))(H:Hp)(s:Shared):Prop where
 ok:X.Ok
 os:s.os=X.s₀.os
 bare:AllBare s.gens
 base:Un X.fs X.ex X.H₀ H X.s₀.heap s.heap
 loc:∃m,s.heap.Ns X.env.locals m/\∀(i:Nat)(x:Str)(v:V),X.N[i]?=some x->σ[i]?=some (some v)->Pi X.env.scope x->∃u,aU v u/\P3 X.env s.heap m x u
 cell:∀x c,X.env.cells.lookup x=some c->∃v,s.heap.IsCell c v
 free:H X.env.locals=none
 freeC:∀x c,X.env.cells.lookup x=some c->H c=none
 pin:∀p∈X.pn++pins,s.heap.get? p.1=some p.2/\H p.1=none/\p.1≠X.env.locals/\p.1∉X.fs/\∀v,p.2.data≠.cell v
 hok:lY X.prog X.w H s.heap
 len:σ.length=X.N.length
section
variable{X:Cx}{f:R9}{g:List (Option V)}{H B:Hp}{s:Shared}{h':Heap}
def Cx.Ok.nofr(ok:X.Ok)(e:X.base.get? b=some o):b∉X.fs:=λa=>by have:=(ok.funs.mem a).1;rw[e]at this;cases this
theorem aL.bs(I:aL X f g H s):∀b o,X.base.get? b=some o->s.heap.get? b=some o/\H b=none:=λb o e=>⟨I.base.keep b o (I.ok.bs b o e).1 (I.ok.bs b o e).2 (I.ok.nofr e) (I.ok.noex b o e),I.base.free b o (I.ok.bs b o e).1 (I.ok.bs b o e).2 (I.ok.noex b o e)⟩
def aL.bk(I:aL X f g H s):∀b o,X.base.get? b=some o->s.heap.get? b=some o:=λb o e=>(I.bs b o e).1
theorem aL.mod(I:aL X f g H s):O3 X.K X.mg X.base:=I.ok.mod
def aL.kIn(I:aL X f g H s):X.K.In s.heap:=I.ok.mod.kin.keeps I.bk
def aL.fr(I:aL X f g H s):∃m,Fr X.base X.env.locals s.heap m:=let⟨m,hn,_⟩:=I.loc
 ⟨m,hn,I.bk,n7 I.ok.bsz I.ok.above⟩
theorem aL.lt(I:aL X f g H s):X.env.locals<s.heap.objs.size:=let⟨_,hn,_⟩:=I.loc;hn.lt
def aL.sz(I:aL X f g H s):X.s₀.heap.objs.size<=s.heap.objs.size:=n7 I.ok.above (tl I.lt)
def aL.nofs(I:aL X f g H s)(h:s.heap.objs.size<=a):a∉X.fs:=λb=>by obtain⟨_,o,c,_⟩:=I.ok.funs.mem b;exact absurd (pu (kl c) (n7 I.sz h)) (ri _)
def aL.cne(I:aL X f g H s):∀x c,X.env.cells.lookup x=some c->c≠X.env.locals:=λx c e z=>by obtain⟨v,o,d,hd⟩:=I.cell x c e;obtain⟨m,⟨h,i,j,a,b,_⟩,_⟩:=I.loc;rw[z,a]at d;cases d;rw[b]at hd;cases hd
theorem aL.funs(I:aL X f g H s):s.heap.FunFrames X.base X.outer:=by
 have all:∀(l:List Env),(∀b∈jG l,b∈X.fs)->X.s₀.heap.FunFrames X.base l->s.heap.FunFrames X.base l:=by
  intro l
  induction l with|nil=>intro _ _;trivial|cons env r i=>intro h j;obtain⟨k,⟨L,o,a,hn,m,hd⟩,n⟩:=j;have c:L∈X.fs:=h L (by unfold jG;rw[QJ,a];exact mm);obtain⟨sl,e⟩:=I.base.slot L o m (I.ok.frf L c) c λz=>I.ok.exfs L z c;exact⟨k,⟨L,_,a,hn,e,hd⟩,i (λb d=>h b (by unfold jG;rw[QJ,a];exact k4 _ d)) n⟩
 exact all X.outer (λ_ d=>d) I.ok.funs
theorem aL.stack(I:aL X f g H s):s.heap.FunFrames X.base X.stack:=by
 rcases I.ok.stk with e|⟨e,a⟩
 ·rw[e];exact I.funs
 ·rw[e];obtain⟨m,hn,_⟩:=I.loc;refine .cons (by rw[I.ok.kind];decide) a hn ?_ I.funs;exact Heap.get?_none_of_le (n7 I.ok.bsz I.ok.above)
def aL.stkSub(I:aL X f g H s):∀b∈jG X.stack,b∈X.env.locals::X.fs:=λb a=>by
 rcases I.ok.stk with e|⟨e,c⟩
 ·rw[e]at a;exact k4 _ a
 ·rw[e]at a;unfold jG at a;rw[QJ,c]at a;exact a
def aL.stkFree(I:aL X f g H s):∀b∈jG X.stack,H b=none:=λb a=>by
 rcases pw.mp (I.stkSub b a)with e|a
 ·rw[e];exact I.free
 ·obtain⟨_,o,c,_⟩:=I.ok.funs.mem a;exact I.base.free b o c (I.ok.frf b a) λz=>I.ok.exfs b z a
def aL.step{g':Array GenState}{P:Nat}{d':Drawn}{ch:Sg}(I:aL X f g H s)(h:∀b∈ch,(b∈X.ex\/X.s₀.heap.objs.size<=b)/\b≠X.env.locals/\(∀x c,X.env.cells.lookup x=some c->c≠b)/\∀p∈X.pn++f,p.1≠b)(keep:∀b o,b≠X.env.locals->b∉X.fs->b∉ch->s.heap.get? b=some o->H b=none->h'.get? b=some o)(slot:∀b o,b≠X.env.locals->b∈X.fs->b∉ch->s.heap.get? b=some o->H b=none->∃sl,h'.get? b=some {o with slots:=sl})(free:∀b o,b∉ch->s.heap.get? b=some o->H b=none->B b=none)(there:∀b o,b∉ch->s.heap.get? b=some o->∃F,h'.get? b=some F)(tups:∀b C,H b=some (.tup C)->B b=some (.tup C))(frzs:∀b o u,H b=some (.frz o u)->B b=some (.frz o u))(tbls:∀b L,H b=some (.tbl L)->∃G,B b=some (.tbl (L++G)))(ns:∀m,s.heap.Ns X.env.locals m->h'.Ns X.env.locals m)(hok:lY X.prog X.w B h')(hg:AllBare g'):aL X f g B {s with heap:=h',gens:=g',drawn:=d',toks:=P}:=by
 have J:∀b o,X.s₀.heap.get? b=some o->b≠X.env.locals:=λb o e=>l_ (pu (kl e) I.ok.above);have y:∀b o,X.s₀.heap.get? b=some o->b∉X.ex->b∉ch:=λb o e a D=>by
  rcases(h b D).1 with z|z
  ·exact a z
  ·exact absurd (pu (kl e) z) (ri _)
 have j:∀x c,X.env.cells.lookup x=some c->∀v,s.heap.IsCell c v->h'.IsCell c v:=λx c e v⟨o,E,hd⟩=>by
  have t:c∉ch:=λz=>(h c z).2.2.1 x c e rfl
  by_cases hc:c∈X.fs
  ·obtain⟨sl,q⟩:=slot c o (I.cne x c e) hc t E (I.freeC x c e);exact⟨_,q,hd⟩
  ·exact⟨o,keep c o (I.cne x c e) hc t E (I.freeC x c e),hd⟩
 refine⟨I.ok,I.os,hg,⟨λb o e n D a=>?_,λb o e n D a=>?_,λb o e n a=>?_,λb o e a=>?_,λb C e=>tups b C (I.base.tups b C e),λb o C e=>frzs b o C (I.base.frzs b o C e),λb L e=>?_⟩,?_,λx c e=>?_,?_,λx c e=>?_,λp N=>?_,hok,I.len⟩
 ·exact keep b o (J b o e) D (y b o e a) (I.base.keep b o e n D a) (I.base.free b o e n a)
 ·obtain⟨sl,A⟩:=I.base.slot b o e n D a;obtain⟨M,K⟩:=slot b _ (J b o e) D (y b o e a) A (I.base.free b o e n a);exact⟨M,K⟩
 ·obtain⟨F,A⟩:=I.base.there b o e a;exact free b F (y b o e a) A (I.base.free b o e n a)
 ·obtain⟨F,A⟩:=I.base.there b o e a;exact there b F (y b o e a) A
 ·obtain⟨O,A⟩:=I.base.tbls b L e;obtain⟨Q,K⟩:=tbls b _ A;exact⟨O++Q,by rw[K,Array.append_assoc]⟩
 ·obtain⟨m,hn,R⟩:=I.loc;refine⟨m,ns m hn,λi x v A K S=>?_⟩;obtain⟨u,r,l⟩:=R i x v A K S;refine⟨u,r,?_⟩;rcases l with l|⟨k,c,e,z⟩
  ·exact .inl l
  ·exact .inr ⟨k,c,e,j x c e _ z⟩
 ·obtain⟨v,z⟩:=I.cell x c e;exact⟨v,j x c e v z⟩
 ·obtain⟨m,⟨o,_,_,E,_⟩,_⟩:=I.loc;exact free _ o (λz=>(h _ z).2.1 rfl) E I.free
 ·obtain⟨v,o,E,hd⟩:=I.cell x c e;exact free c o (λz=>(h c z).2.2.1 x c e rfl) E (I.freeC x c e)
 ·obtain⟨e,n,ne,nf,d⟩:=I.pin p N;have t:p.1∉ch:=λz=>(h p.1 z).2.2.2 p N rfl;exact⟨keep p.1 p.2 ne nf t e n,free p.1 p.2 t e n,ne,nf,d⟩
def aL.un{t':Nat}(I:aL X f g H s)(u:Un X.fs [] H B s.heap h')(hok:lY X.prog X.w B h'):aL X f g B {s with heap:=h',toks:=t'}:=by obtain⟨m,⟨o,l,p,i,r⟩,_⟩:=id I.loc;obtain⟨sl,j⟩:=u.any i I.free (by simp);exact I.step (g':=s.gens) (d':=s.drawn) (ch:=[]) (λ_ z=>nomatch z) (λb o _ c _ e n=>u.keep b o e n c (by simp)) (λb o _ c _ e n=>u.slot b o e n c (by simp)) (λb o _ e n=>u.free b o e n (by simp)) (λb o _ e=>u.there b o e (by simp)) u.tups u.frzs u.tbls (λx hm=>by obtain⟨y,d,h,a,k⟩:=hm;rw[i]at a;cases a;exact⟨_,d,h,j,k⟩) hok I.bare
def aL.call{g':Array GenState}{t':Nat}{d':Drawn}{ch:Sg}(I:aL X f g H s)(u:Un (jG X.stack) ch H B s.heap h')(hok:lY X.prog X.w B h')(hg:AllBare g')(a:∀b∈ch,(b∈X.ex\/X.s₀.heap.objs.size<=b)/\b≠X.env.locals/\(∀x c,X.env.cells.lookup x=some c->c≠b)/\∀p∈X.pn++f,p.1≠b):aL X f g B {s with heap:=h',gens:=g',drawn:=d',toks:=t'}:=by obtain⟨m,⟨o,t,v,k,r⟩,_⟩:=id I.loc;obtain⟨sl,h⟩:=u.any k I.free λz=>(a _ z).2.1 rfl;exact I.step (ch:=ch) a (λb o h l hc e n=>u.keep b o e n (λz=>(pw.mp (I.stkSub b z)).elim h l) hc) (λb o _ _ hc e n=>u.any e n hc) (λb o hc e n=>u.free b o e n hc) (λb o hc e=>u.there b o e hc) u.tups u.frzs u.tbls (λy hm=>by obtain⟨A,i,j,d,q⟩:=hm;rw[k]at d;cases d;exact⟨_,i,j,h,q⟩) hok hg
def aL.turned{t':Nat}{it:Addr}(I:aL X f g H s)(k:∀b o,b≠it->s.heap.get? b=some o->h'.get? b=some o)(hn:H it=none)(d:it≠X.env.locals)(h1:it∈X.ex\/X.s₀.heap.objs.size<=it)(h2:∀x c,X.env.cells.lookup x=some c->c≠it)(h3:∀p∈X.pn++f,p.1≠it):aL X f g H {s with heap:=h',toks:=t'}:=by
 have a:∀b u,H b=some u->b≠it:=λb u e z=>by rw[z,hn]at e;cases e
 refine I.step (g':=s.gens) (d':=s.drawn) (ch:=[it]) (λb h=>?_) (λb o _ _ hc e _=>k b o (λz=>hc (by simp[z])) e) (λb o _ _ hc e _=>⟨o.slots,k b o (λz=>hc (by simp[z])) e⟩) (λ_ _ _ _ n=>n) (λb o hc e=>⟨o,k b o (λz=>hc (by simp[z])) e⟩) (λ_ _ e=>e) (λ_ _ _ e=>e) (λb A e=>⟨#[],by rw[e];simp⟩) (λm hm=>?_) (λb u e=>?_) I.bare
 ·have e:b=it:=by simpa using h
  subst e;exact⟨h1,d,h2,h3⟩
 ·obtain⟨o,i,j,l,r⟩:=hm;exact⟨o,i,j,k _ o (pv d) l,r⟩
 ·refine(I.hok b u e).stay (λc v hc q=>k c v ?_ q) (λ_ q=>q) λ_ _ q=>q;rcases hc with z|z
  ·rw[z];exact a b u e
  ·exact a c _ z
def aL.tok(I:aL X f g H s)(t:Nat):aL X f g H {s with toks:=t}:=I.un (h':=s.heap) (t':=t) Un.refl I.hok
theorem aL.kept(I:aL X f g H s)(k:∀b u,s.heap.get? b=some u->h'.get? b=some u):aL X f g H {s with heap:=h',toks:=t'}:=I.un (Un.kept k) (I.hok.kept k)
theorem aL.laid(I:aL X f g H s)(k:∀b u,s.heap.get? b=some u->h'.get? b=some u)(c:s.heap.objs.size<=a)(new:cX X.prog X.w (aA H a o) h' a o):aL X f g (aA H a o) {s with heap:=h',toks:=t'}:=I.un (Un.laid k c (I.hok.fresh c)) (I.hok.laid k c new)
theorem aL.write(I:aL X f g H s)(c:O2 (H x))(d:e=x\/H e=some (.own x))(k:∀b u,b≠e->s.heap.get? b=some u->h'.get? b=some u)(a:∃u,h'.get? e=some u)(new:cX X.prog X.w (aA H x o) h' x o):aL X f g (aA H x o) {s with heap:=h',toks:=t'}:=I.un (Un.write c d k a) (I.hok.write c d k a new)
def aL.weak(I:aL X f g H s)(c:a.length=g.length)(w:∀(i:Nat)v,a[i]?=some (some v)->g[i]?=some (some v)):aL X f a H s:=⟨I.ok,I.os,I.bare,I.base,let⟨m,hn,b⟩:=I.loc;⟨m,hn,λi x v d e h=>b i x v d (w i v e) h⟩,I.cell,I.free,I.freeC,I.pin,I.hok,c.trans I.len⟩
def aL.pins_of(I:aL X f g H s)(h:∀p∈a,s.heap.get? p.1=some p.2/\H p.1=none/\p.1≠X.env.locals/\p.1∉X.fs/\∀v,p.2.data≠.cell v):aL X a g H s:=⟨I.ok,I.os,I.bare,I.base,I.loc,I.cell,I.free,I.freeC,λp b=>(List.mem_append.mp b).elim (λz=>I.pin p (D2 _ z)) (h p),I.hok,I.len⟩
def AO{N:Sc}(c:N.Nodup){i j:Nat}{x:Str}(a:N[i]?=some x)(b:N[j]?=some x):i=j:=by obtain⟨h1,d⟩:=d_.mp a;obtain⟨h2,e⟩:=d_.mp b;exact(List.getElem_inj c).mp (d.trans e.symm)
def xu{M:Model}{A:Around}{E:R8}{i:Nat}{x:Str}{v:V}{u:Value}{Q:Unit->Shared->Prop}(I:aL X f g H s)(hN:X.N.Nodup)(hi:X.N[i]?=some x)(D:NJ X.env.scope x)(r:aU v u)(h:∀s',aL X f (g.set i (some v)) H s'->(∃a,Heap.SameBut a s.heap s'.heap/\(a=X.env.locals\/X.env.cells.lookup x=some a))->Q () s')(hf:X.fn x=true\/X.env.scope.names.lookup x=some .local:=by first|exact .inl rfl|exact .inr rfl|assumption):wpAny M A (storeName X.env x u) Q E s:=by
 obtain⟨m,hn,hl⟩:=id I.loc;have R:(X.env.scope.kind==.class||(X.env.scope.kind==.module&&X.env.locals !=X.env.globals))=false:=by rw[I.ok.kind];rfl
 have J:i<g.length:=by rw[I.len];exact(d_.mp hi).1
 have cne:=I.cne;have t:∀{a:Addr}{h':Heap},(∃o,s.heap.get? a=some o/\H a=none)->Heap.SameBut a s.heap h'->lY X.prog X.w H h':=λ{a h'}ha l b ob e=>by
  obtain⟨_,_,F⟩:=ha;refine(I.hok b ob e).stay (λc Y hc q=>(l.2 c ?_).trans q) (λ_ q=>q) λ_ _ q=>q;rintro rfl;rcases hc with rfl|hc
  ·rw[F]at e;cases e
  ·rw[F]at hc;cases hc
 rcases D with K|K
 ·refine wpAny_storeName_local K hn (λh' aa l=>?_) R;obtain⟨oL,_,_,ad,_⟩:=id hn;refine h _ ⟨I.ok,I.os,I.bare,⟨λb o e n L D=>?_,λb o e n L D=>?_,I.base.free,λb o e D=>?_,I.base.tups,I.base.frzs,I.base.tbls⟩,⟨_,aa,λj y v' C G e3=>?_⟩,λy c e=>?_,I.free,I.freeC,λp hp=>?_,t ⟨oL,ad,I.free⟩ l,by simpa using I.len⟩ ⟨_,l,.inl rfl⟩
  ·exact(l.2 b (l_ (pu (kl e) I.ok.above))).trans (I.base.keep b o e n L D)
  ·obtain⟨sl,C⟩:=I.base.slot b o e n L D;exact⟨sl,(l.2 b (l_ (pu (kl e) I.ok.above))).trans C⟩
  ·obtain⟨o',C⟩:=I.base.there b o e D;exact⟨o',(l.2 b (l_ (pu (kl e) I.ok.above))).trans C⟩
  ·by_cases O:j=i
   ·subst O;rw[hi]at C;cases C;rw[G_ J]at G;cases G;exact⟨u,r,.inl ⟨K,by simp⟩⟩
   ·rw[ry (pv O)]at G;obtain⟨u',r',q⟩:=hl j y v' C G e3;refine⟨u',r',?_⟩;rcases q with⟨k,e⟩|⟨k,c,e,z⟩
    ·refine .inl ⟨k,?_⟩;have:y≠x:=λe=>O (AO hN C (e▸hi));simp[this,e]
    ·exact .inr ⟨k,c,e,z.sameBut l (cne y c e)⟩
  ·obtain⟨Y,z⟩:=I.cell y c e;exact⟨Y,z.sameBut l (cne y c e)⟩
  ·obtain⟨e,n,ne,nf,d⟩:=I.pin p hp;exact⟨(l.2 p.1 ne).trans e,n,ne,nf,d⟩
 ·have P:X.fn x=true:=by
   rcases hf with z|z
   ·exact z
   ·rw[z]at K;cases K
  obtain⟨c,hc⟩:=I.ok.has x (.inl K);obtain⟨Y,z⟩:=I.cell x c hc;refine wpAny_storeName_cell I.ok.kind K hc z (λh' S l=>?_);obtain⟨oc,T,U⟩:=id z;refine h {s with heap:=h'} ⟨I.ok,I.os,I.bare,⟨λb o e n L D=>?_,λb o e n L D=>?_,I.base.free,λb o e D=>?_,I.base.tups,I.base.frzs,I.base.tbls⟩,⟨m,hn.sameBut l (pv (cne x c hc)),λj y v' C G e3=>?_⟩,λy Z e=>?_,I.free,I.freeC,λp hp=>?_,t ⟨oc,T,I.freeC x c hc⟩ l,by simpa using I.len⟩ ⟨c,l,.inr hc⟩
  ·exact(l.2 b (l_ (pu (kl e) (I.ok.cab x c P hc)))).trans (I.base.keep b o e n L D)
  ·obtain⟨sl,C⟩:=I.base.slot b o e n L D;exact⟨sl,(l.2 b (l_ (pu (kl e) (I.ok.cab x c P hc)))).trans C⟩
  ·obtain⟨o',C⟩:=I.base.there b o e D;exact⟨o',(l.2 b (l_ (pu (kl e) (I.ok.cab x c P hc)))).trans C⟩
  ·by_cases O:j=i
   ·subst O;rw[hi]at C;cases C;rw[G_ J]at G;cases G;exact⟨u,r,.inr ⟨.inl K,c,hc,S⟩⟩
   ·rw[ry (pv O)]at G;obtain⟨u',r',q⟩:=hl j y v' C G e3;refine⟨u',r',?_⟩;rcases q with q|⟨k,Z,e,z'⟩
    ·exact .inl q
    ·refine .inr ⟨k,Z,e,z'.sameBut l ?_⟩;rintro rfl;exact O (AO hN C (I.ok.inj _ _ _ e hc▸hi))
  ·by_cases W:Z=c
   ·subst W;exact⟨_,S⟩
   ·obtain⟨w2,z2⟩:=I.cell y Z e;exact⟨w2,z2.sameBut l W⟩
  ·obtain⟨e,n,ne,nf,d⟩:=I.pin p hp;refine⟨(l.2 p.1 ?_).trans e,n,ne,nf,d⟩;intro q;rw[q,T]at e;have q':oc=p.2:=m_ e;exact d Y (by rw[<-q'];exact U)
def z9(I:aL X f g H s)(c:X.N.Nodup)(hi:X.N[i]?=some x)(d:NJ X.env.scope x)(r:aU v u)(h:∀a,aL X f (g.set i (some v)) H a->Q () a)(e:X.fn x=true\/X.env.scope.names.lookup x=some .local:=by first|exact .inl rfl|exact .inr rfl|assumption):wpAny M A (storeName X.env x u) Q E s:=xu I c hi d r (λa b _=>h a b) e
def aL.call'(I:aL X f g H s)(j:s'.os=s.os)(u:Un (jG X.stack) ch H B s.heap s'.heap)(hok:lY X.prog X.w B s'.heap)(hg:AllBare s'.gens)(a:∀b∈ch,(b∈X.ex\/X.s₀.heap.objs.size<=b)/\b≠X.env.locals/\(∀x c,X.env.cells.lookup x=some c->c≠b)/\∀p∈X.pn++f,p.1≠b):aL X f g B s':=by obtain⟨h',d,h,i,k⟩:=s';have e:k=s.os:=j;subst e;exact I.call (g':=d) (t':=i) (d':=h) u hok hg a
end
abbrev XK:=Value->Option Addr->Hp->Prop
abbrev St:=List (Option V)
abbrev VK:=V->Hp->Prop
abbrev TE:=St->Hp->VK->Prop
abbrev TT:=St->Hp->(Bool->Hp->Prop)->Prop
abbrev TA:=St->Hp->(List V->Hp->Prop)->Prop
structure ql where
 nx:St->Hp->Prop
 rt:VK
 bk:St->Hp->Prop:=λ_ _=>False
 ct:St->Hp->Prop:=λ_ _=>False
abbrev TS:=ql->St->Hp->Prop
def EP(X:Cx)(a:R9)(c:St)(Q:VK)(u:Value)(d:Shared):Prop:=∃v b,aL X a c b d/\aU v u/\Q v b
def TP(X:Cx)(a:R9)(d:St)(Q:Bool->Hp->Prop)(b:Bool)(e:Shared):Prop:=∃c,aL X a d c e/\Q b c
def AP(X:Cx)(a:R9)(d:St)(Q:List V->Hp->Prop)(e:Sa)(f:Shared):Prop:=∃b c,aL X a d c f/\a9 b e/\Q b c
def SP(X:Cx)(c:R9)(D:ql)(f:Flow)(d:Shared):Prop:=match f with|.next=>∃a b,aL X c a b d/\D.nx a b|.brk=>∃a b,aL X c a b d/\D.bk a b|.cont=>∃a b,aL X c a b d/\D.ct a b|.ret u=>∃v a b,aL X c a b d/\aU v u/\D.rt v b
def PE(X:Cx)(e:Expr)(t:TE):Prop:=∀(a:R9)(s:Shared)(b:St)(H:Hp)(Q:VK),aL X a b H s->t b H Q->wpAny (model X.prog X.w) X.A (eval e X.env) (EP X a b Q) X.xe s
def PT(X:Cx)(e:Expr)(t:TT):Prop:=∀(a:R9)(s:Shared)(b:St)(H:Hp)(Q:Bool->Hp->Prop),aL X a b H s->t b H Q->wpAny (model X.prog X.w) X.A (isTrue e X.env (eval e X.env)) (TP X a b Q) X.xe s
def PW(X:Cx)(e:Expr)(t:TT):Prop:=∀(b:Sem Value)(a:R9)(s:Shared)(c:St)(H:Hp)(Q:Bool->Hp->Prop),aL X a c H s->t c H Q->wpAny (model X.prog X.w) X.A (isTrue e X.env b) (TP X a c Q) X.xe s
def PW.pt(h:PW X e t):PT X e t:=h _
def PA(X:Cx)(d:Sd)(t:TA):Prop:=∀(b:Pos)(a:R9)(s:Shared)(c:St)(H:Hp)(Q:List V->Hp->Prop),aL X a c H s->t c H Q->wpAny (model X.prog X.w) X.A (spliced (backTo b (starEach d X.env))) (AP X a c Q) X.xe s
def PS(X:Cx)(st:Stmt)(t:TS):Prop:=∀(a:R9)(s:Shared)(b:St)(H:Hp)(D:ql),aL X a b H s->t D b H->wpAny (model X.prog X.w) X.A (exec st X.env) (SP X a D) X.xe s
def xi(X:Cx)(st:List Stmt)(t:TS):Prop:=∀(a:R9)(s:Shared)(b:St)(H:Hp)(D:ql),aL X a b H s->t D b H->wpAny (model X.prog X.w) X.A (execs st X.env) (SP X a D) X.xe s
def cq(h:wpAny M A t Q E s)(c:∀a s,Q a s->d a s):wpAny M A t d E s:=wpAny_mono h c λ_ _ x=>x
end L2
namespace L2
open PySem PySem.Spec PyProof.Rows
section
variable{X:Cx}
def LU(i:Nat):TE:=λa H Q=>∃v,a[i]?=some (some v)/\Q v H
def tC(v:V):TE:=λ_ H Q=>Q v H
def MA(j:X.N[i]?=some x)(n:Pi X.env.scope x)(hd:(x==("__debug__":Str))=false:=by decide)(g:(x==("__classdict__":Str))=false:=by decide):PE X (.Name x f) (LU i):=by
 intro d s k H Q I h;obtain⟨v,e,h⟩:=h;obtain⟨m,hn,o⟩:=I.loc;obtain⟨u,r,l⟩:=o i x v j e n;have fin:EP X d k Q u s:=⟨v,H,I,r,h⟩;rcases l with⟨b,hm⟩|⟨b,c,hc,a⟩
 ·exact wpAny_Name (wpAny_loadName_local I.ok.kind b hn hm fin) hd
 ·rcases b with b|b
  ·exact wpAny_Name (wpAny_loadName_cell I.ok.kind b hc a fin) hd
  ·exact wpAny_Name (wpAny_loadName_free I.ok.kind b hc a fin g) hd
def af{i j f}:PE X (.Constant (.int i) j f) (tC (.int i)):=λ_ _ _ H _ I h=>wpAny_Constant_int ⟨.int i,H,I.tok _,⟨_,rfl⟩,h⟩
def eD{b j f}:PE X (.Constant (.bool b) j f) (tC (.bl b)):=λ_ _ _ H _ I h=>Constant_bool ⟨.bl b,H,I,rfl,h⟩
def mn{j f}:PE X (.Constant .none j f) (tC .non):=λ_ _ _ H _ I h=>Constant_none ⟨.non,H,I,rfl,h⟩
def aB{x j f}:PE X (.Constant (.str x) j f) (tC (.str x)):=λ_ _ _ H _ I h=>Calls.Constant_str ⟨.str x,H,I.tok _,⟨_,rfl⟩,h⟩
def Gl(X:Cx)(x:Str):Prop:=X.env.kindOf x=some .globalImplicit
def jY(I:aL X a c H s)(hg:Gl X x)(hm:X.mg x=some u)(h:Q u s)(hd:(x==("__debug__":Str))=false:=by decide):wpAny (model X.prog X.w) X.A (eval (.Name x f) X.env) Q E s:=Calls.Name_function_global I.ok.kind hg (Calls.loadGlobal_global (by rw[I.ok.glob];exact I.mod.glob.keeps I.bk) hm h) hd
def lK(I:aL X a d H s)(hg:Gl X x)(hm:X.mg x=none)(c:bootBuiltins x=some u)(h:Q u s)(hn:x≠"__name__":=by decide)(hd:(x==("__debug__":Str))=false:=by decide):wpAny (model X.prog X.w) X.A (eval (.Name x f) X.env) Q E s:=by obtain⟨b,h1,h2⟩:=I.mod.blt;exact Calls.Name_function_global I.ok.kind hg (Calls.loadGlobal_builtin (by rw[I.ok.glob];exact I.mod.glob.keeps I.bk) hm (by rw[I.ok.blt];exact h1.keeps I.bk) ((h2 x hn).trans c) h) hd
def Dz(hg:Gl X x)(hm:X.mg x=some u)(r:aU v u)(hd:(x==("__debug__":Str))=false:=by decide):PE X (.Name x f) (tC v):=λ_ _ _ H _ I h=>jY I hg hm ⟨v,H,I,r,h⟩ hd
def Ke{x:Str}{v:V}{u:Value}{f:Pos}(hg:Gl X x)(hm:X.mg x=none)(a:bootBuiltins x=some u)(r:aU v u)(hn:x≠"__name__":=by decide)(hd:(x==("__debug__":Str))=false:=by decide):PE X (.Name x f) (tC v):=λ_ _ _ H _ I h=>lK I hg hm a ⟨v,H,I,r,h⟩ hn hd
variable{a b:Expr}{g p:TE}{f:Pos}
def PC(X:Cx)(h:CmpOp)(a b:Expr)(t:TE):Prop:=∀(c:R9)(s:Shared)(e:St)(H:Hp)(Q:VK),aL X c e H s->t e H Q->wpAny (model X.prog X.w) X.A (eval a X.env) (λv s₁=>wpAny (model X.prog X.w) X.A (eval b X.env) (λu d=>wpAny (model X.prog X.w) X.A (compareOp h v u) (EP X c e Q) X.xe d) X.xe s₁) X.xe s
def tB(t:TE):TT:=λd H Q=>t d H λx e=>∃c,x=.bl c/\Q c e
def oB(h:PC X i a b t)(h1:behindInMarks i b=false:=by first|exact nobehind _ (by decide) (by decide)|rfl):PT X (.Compare a [i] [b] f) (tB t):=by intro e s j H Q I k;refine wpAny_isTrue_Compare1 (cq (h e s j H _ I k) λv o h1=>cq h1 λu r h2=>cq h2 λc w⟨x,l,I1,m,n⟩=>?_) h1;obtain⟨d,rfl,q⟩:=n;cases m;exact r4 ⟨l,I1,q⟩
variable{n o:TT}{mj:Sd}
def Px(t u:TT):TT:=λd H Q=>t d H λc e=>if c=true then u d e Q else Q false e
def tOr(t u:TT):TT:=λd H Q=>t d H λc e=>if c=true then Q true e else u d e Q
def Ps(t:TT):TT:=λd H Q=>t d H λc e=>Q (!c) e
def lH(i:PT X a n):PW X (.BoolOp .And [a] f) n:=by intro k d s j H Q I h;refine isTrue_and (cq (i d s j H Q I h) λc l e=>?_);cases c with|true=>exact isTrue_and_nil e|false=>exact e
def db(i:PT X a n):PW X (.BoolOp .Or [a] f) n:=by intro k d s j H Q I h;refine isTrue_or (cq (i d s j H Q I h) λc l e=>?_);cases c with|false=>exact isTrue_or_nil e|true=>exact e
def oA(l:PT X a n)(q:PW X (.BoolOp .And (b::mj) f) o):PW X (.BoolOp .And (a::b::mj) f) (Px n o):=by intro k d s e H Q I h;refine isTrue_and (cq (l d s e H _ I h) λc m⟨i,I1,j⟩=>?_);cases c with|true=>exact q k d m e i Q I1 j|false=>exact⟨i,I1,j⟩
def eC(l:PT X a n)(q:PW X (.BoolOp .Or (b::mj) f) o):PW X (.BoolOp .Or (a::b::mj) f) (tOr n o):=by intro k d s e H Q I h;refine isTrue_or (cq (l d s e H _ I h) λc m⟨i,I1,j⟩=>?_);cases c with|true=>exact⟨i,I1,j⟩|false=>exact q k d m e i Q I1 j
def bT(e:PT X a n):PT X (.UnaryOp .Not a f) (Ps n):=by intro d s i H Q I h;exact isTrue_not (e d s i H (λc j=>Q (!c) j) I h)
def Oa(g p:TE):TE:=λd H Q=>g d H λx e=>∃c,x=.bl c/\if c=true then p d e Q else Q (.bl false) e
def Pr(g p:TE):TE:=λd H Q=>g d H λx e=>∃c,x=.bl c/\if c=true then Q (.bl true) e else p d e Q
def N3(g:TE):TE:=λd H Q=>g d H λx e=>∃c,x=.bl c/\Q (.bl (!c)) e
def dA{d}(h:PE X a t):PE X (.BoolOp d [a] f) t:=λc s e H Q I i=>BoolOp_one (h c s e H Q I i)
def cJ(l:PE X a g)(q:PE X (.BoolOp .And (b::mj) f) p):PE X (.BoolOp .And (a::b::mj) f) (Oa g p):=by intro d s i H Q I h;refine BoolOp_and (cq (l d s i H _ I h) λv k⟨x,j,I1,m,e⟩=>?_);obtain⟨c,rfl,e⟩:=e;cases m;refine r4 ?_;cases c with|true=>exact q d k i j Q I1 e|false=>exact⟨.bl false,j,I1,rfl,e⟩
def Os(l:PE X a g)(q:PE X (.BoolOp .Or (b::mj) f) p):PE X (.BoolOp .Or (a::b::mj) f) (Pr g p):=by intro d s i H Q I h;refine BoolOp_or (cq (l d s i H _ I h) λv k⟨x,j,I1,m,e⟩=>?_);obtain⟨c,rfl,e⟩:=e;cases m;refine r4 ?_;cases c with|false=>exact q d k i j Q I1 e|true=>exact⟨.bl true,j,I1,rfl,e⟩
def GS(i:PE X a g):PE X (.UnaryOp .Not a f) (N3 g):=by intro d s j H Q I h;refine UnaryOp_ (cq (i d s j H _ I h) λv m⟨x,k,I1,l,e⟩=>?_);obtain⟨c,rfl,e⟩:=e;cases l;exact not_of (r4 ⟨.bl (!c),k,I1,rfl,e⟩)
end
end L2
namespace L2
open PySem PySem.Spec PyProof.Rows
def aX(K:R7)(H:Hp)(a:Addr)(c:List V):Prop:=Rd H a (.lst c)\/∃(o:Obj)(b:Se)(n:Nat),K.lookup a=some o/\o.cls=.type "list"/\o.dict=none/\o.data=.seq b n/\b.size<=sizeLine/\a9 c b.toList
def aW(K:R7)(H:Hp)(a:Addr)(c:List V):Prop:=Rd H a (.tup c)\/∃(o:Obj)(b:Se)(n:Nat),K.lookup a=some o/\o.cls=.type "tuple"/\o.data=.seq b n/\b.size<=sizeLine/\a9 c b.toList
def PY:Value->Option V|.none=>some .non|.bool b=>some (.bl b)|.int i _=>some (.int i)|.str x _=>some (.str x)|.bytes b _=>some (.byt b)|.float b _=>some (.flt b)|.ref a=>some (.ref a)|.type n=>some (.ty n)|_=>none
def aU.abs(r:aU x u):PY u=some x:=by cases x with|non=>cases r;rfl|bl _=>cases r;rfl|int _=>obtain⟨t,rfl⟩:=r;rfl|str _=>obtain⟨t,rfl⟩:=r;rfl|byt _=>obtain⟨t,rfl⟩:=r;rfl|flt _=>obtain⟨t,rfl⟩:=r;rfl|ref _=>cases r;rfl|ty _=>cases r;rfl
def aU.inj(r:aU x u)(q:aU y u):x=y:=m_ (r.abs.symm.trans q.abs)
theorem a9.inj:∀{a c:List V}{d:Sa},a9 a d->a9 c d->a=c|_,_,_,.nil,.nil=>rfl|_,_,_,.cons r t,.cons b e=>by rw[r.inj b,a9.inj t e]
section
variable{X:Cx}{c:R9}{g:St}{H:Hp}{s:Shared}{a:Addr}{xs f:List V}
def aX.of{K:R7}(h:H a=some (.lst xs)):aX K H a xs:=.inl (.inl h)
def aW.of{K:R7}(h:H a=some (.tup xs)):aW K H a xs:=.inl (.inl h)
def aL.list(I:aL X c g H s)(h:aX X.K H a xs):∃d:List Value,a9 xs d/\PlainL s.heap a d.toArray/\xs.length<=sizeLine:=by
 rcases h with h|⟨o,d,n,b,hc,hd,i,j,r⟩
 ·obtain⟨z,d,n,r,e⟩:=h.ok I.hok;exact⟨d,r,⟨_,n,e,rfl,rfl,rfl⟩,z⟩
 ·refine⟨d.toList,r,⟨o,n,I.kIn a o b,hc,hd,by simpa using i⟩,?_⟩;have e:=r.length;simp only[n_]at e;lia
def aL.tuple(I:aL X c g H s)(h:aW X.K H a xs):∃d:List Value,a9 xs d/\IsTup s.heap a d.toArray/\xs.length<=sizeLine:=by
 rcases h with h|⟨o,d,n,b,hc,i,j,r⟩
 ·obtain⟨z,d,r,p⟩:=h.ok I.hok;exact⟨d,r,p,z⟩
 ·refine⟨d.toList,r,⟨o,I.kIn a o b,hc,n,by simpa using i⟩,?_⟩;have e:=r.length;simp only[n_]at e;lia
def aL.list_inj(I:aL X c g H s)(h:aX X.K H a xs)(h':aX X.K H a f):xs=f:=by
 obtain⟨i,r,⟨o,n,e,_,_,d⟩,_⟩:=I.list h;obtain⟨b,l,⟨p,q,j,_,_,k⟩,_⟩:=I.list h';rw[e]at j;cases j;rw[d]at k;injection k with m _;have:i=b:=by simpa using tA Array.toList m
 subst this;exact r.inj l
def aL.tuple_inj(I:aL X c g H s)(h:aW X.K H a xs)(h':aW X.K H a f):xs=f:=by
 obtain⟨i,r,⟨o,e,_,n,d⟩,_⟩:=I.tuple h;obtain⟨b,l,⟨p,j,_,q,k⟩,_⟩:=I.tuple h';rw[e]at j;cases j;rw[d]at k;injection k with m _;have:i=b:=by simpa using tA Array.toList m
 subst this;exact r.inj l
end
abbrev Cx.wish(X:Cx)(E:R8):Cx:={X with xe:=E}
abbrev Cx.nox(X:Cx):Cx:=X.wish λ_ _=>False
theorem Cx.Ok.wish{X:Cx}(ok:X.Ok)(E:R8):(X.wish E).Ok:=⟨ok.mod,ok.kind,ok.glob,ok.blt,ok.above,ok.inj,ok.has,ok.cab,ok.hd,ok.frames,ok.stk,ok.exf,ok.bs,ok.bsz,ok.noex,ok.exfs,ok.funs,ok.frf⟩
def Cx.Ok.unwish{X:Cx}{E:R8}(ok:(X.wish E).Ok):X.Ok:=⟨ok.mod,ok.kind,ok.glob,ok.blt,ok.above,ok.inj,ok.has,ok.cab,ok.hd,ok.frames,ok.stk,ok.exf,ok.bs,ok.bsz,ok.noex,ok.exfs,ok.funs,ok.frf⟩
section
variable{X:Cx}{a:R9}{c:St}{H:Hp}{s:Shared}{E:R8}
theorem aL.wish(I:aL X a c H s)(E:R8):aL (X.wish E) a c H s:=⟨I.ok.wish E,I.os,I.bare,I.base,I.loc,I.cell,I.free,I.freeC,I.pin,I.hok,I.len⟩
theorem aL.unwish(I:aL (X.wish E) a c H s):aL X a c H s:=⟨I.ok.unwish,I.os,I.bare,I.base,I.loc,I.cell,I.free,I.freeC,I.pin,I.hok,I.len⟩
theorem SP.unwish(h:SP (X.wish E) a D f e):SP X a D f e:=by cases f with|next=>obtain⟨b,d,I,q⟩:=h;exact⟨b,d,I.unwish,q⟩|brk=>obtain⟨b,d,I,q⟩:=h;exact⟨b,d,I.unwish,q⟩|cont=>obtain⟨b,d,I,q⟩:=h;exact⟨b,d,I.unwish,q⟩|ret u=>obtain⟨v,b,d,I,r,q⟩:=h;exact⟨v,b,d,I.unwish,r,q⟩
theorem xi.nox{st:List Stmt}{t:TS}(h:xi X.nox st t):xi X st t:=λa s c H D I b=>wpAny_mono (h a s c H D (I.wish _) b) (λ_ _ q=>q.unwish) λ_ _ z=>False.elim z
end
section
variable{X:Cx}{st:Stmt}{mj:List Stmt}{t u:TS}{e:Expr}{te:TE}{g:Pos}
def zZ:TS:=λD a H=>D.nx a H
def FY(t u:TS):TS:=λD a H=>t {D with nx:=u D} a H
def aC:xi X [] zZ:=λ_ _ a H _ I h=>H_ ⟨a,H,I,h⟩
def ag(h1:PS X st t)(h2:xi X mj u):xi X (st::mj) (FY t u):=by intro a s c H D I h;refine Q2 (cq (h1 a s c H {D with nx:=u D} I h) λf d q=>?_);cases f with|next=>obtain⟨b,i,j,q⟩:=q;exact h2 a d b i D j q|ret v=>exact q|brk=>exact q|cont=>exact q
def ah(h1:PS X st t):xi X [st] t:=by intro a s b H D I h;refine Q2 (cq (h1 a s b H D I h) λf c q=>?_);cases f with|next=>exact H_ q|ret v=>exact q|brk=>exact q|cont=>exact q
def aL.quiet(I:aL X a c H s):interactive X.env=false:=by simp[interactive,I.ok.kind]
def Lm(te:TE):TS:=λD a H=>te a H λ_ b=>D.nx a b
def aR(c:PE X e te)(d:swapsWith e none g.line X.env=pure false:=by rfl):PS X (.Expr e g) (Lm te):=by intro a s b H D I h;exact wpAny_Expr_any (cq (c a s b H _ I h) λv j⟨x,f,I1,k,i⟩=>⟨b,f,I1,i⟩) I.quiet d
def N1(te:TE):TS:=λD a H=>te a H D.rt
def ax(c:PE X e te):PS X (.Return (some e) g) (N1 te):=by intro a s b H D I h;exact wpAny_Return_some (cq (c a s b H _ I h) λv j⟨x,d,I1,f,i⟩=>⟨x,b,d,I1,f,i⟩)
def Jo(c:TT)(t u:TS):TS:=λD a H=>c a H λb d=>if b=true then t D a d else u D a d
def aJ(hc:PT X c tc)(n:xi X a t)(o:xi X b u):PS X (.If c a b g) (Jo tc t u):=by intro f s i H D I h;refine wpAny_If (cq (hc f s i H _ I h) λd j⟨k,I1,l⟩=>?_);cases d with|true=>exact n f j i k D I1 l|false=>exact o f j i k D I1 l
def LW:TS:=λ_ _ _=>False
def cn:PS X st LW:=λ_ _ _ _ _ _ h=>h.elim
end
abbrev TG:=V->St->Hp->(St->Hp->Prop)->Prop
abbrev NG:=List V->St->Hp->(St->Hp->Prop)->Prop
def PG(X:Cx)(a:Expr)(t:TG):Prop:=∀(b:R9)(s:Shared)(d:St)(H:Hp)(v:V)(u:Value)(Q:St->Hp->Prop),aL X b d H s->aU v u->t v d H Q->wpAny (model X.prog X.w) X.A (assign a X.env u) (λ_ f=>∃c e,aL X b c e f/\Q c e) X.xe s
def Np(X:Cx)(g:Sd)(t:NG):Prop:=∀(a:R9)(s:Shared)(c:St)(H:Hp)(d:List V)(e:Sa)(Q:St->Hp->Prop),aL X a c H s->a9 d e->t d c H Q->wpAny (model X.prog X.w) X.A (assignInOrder ((assignEach g X.env).map (·.2)) e) (λ_ h=>∃b f,aL X a b f h/\Q b f) X.xe s
abbrev Ld:=V->V->V->Hp->(Hp->Prop)->Prop
def Lf(X:Cx)(t:Ld):Prop:=∀(a:R9)(s:Shared)(b:St)(H:Hp)(o i v:V)(c iv u:Value)(Q:Hp->Prop),aL X a b H s->aU o c->aU i iv->aU v u->t o i v H Q->wpAny (model X.prog X.w) X.A (setItem c iv u) (λ_ e=>∃d,aL X a b d e/\Q d) X.xe s
section
variable{X:Cx}{c:Pos}
def kX(i:Nat):TG:=λv a H Q=>Q (a.set i (some v)) H
def yH(d:X.N.Nodup)(hi:X.N[i]?=some x)(e:NJ X.env.scope x)(f:X.fn x=true\/X.env.scope.names.lookup x=some .local:=by first|exact .inl rfl|exact .inr rfl|assumption):PG X (.Name x c) (kX i):=by intro a s g H v u Q I r h;exact wpAny_assign_Name (z9 I d hi e r (λj b=>⟨_,H,b,h⟩) f)
def OS:NG:=λa b H Q=>a=[]/\Q b H
def Ia(t:TG)(u:NG):NG:=λb d H Q=>∃v r,b=v::r/\t v d H λa e=>u r a e Q
def ii:Np X [] OS:=by intro a s b H d f Q I r h;obtain⟨e,h⟩:=h;subst e;cases r;exact assignInOrder_nil ⟨b,H,I,h⟩
def bL(h1:PG X e t)(h2:Np X d u)(f:(assignEach (e::d) X.env).map (·.2)=assign e X.env::(assignEach d X.env).map (·.2):=by rfl):Np X (e::d) (Ia t u):=by intro a s g H n o Q I r h;obtain⟨v,p,i,h⟩:=h;subst i;cases r with|cons r j=>rw[f];refine assignInOrder_cons (cq (h1 a s g H _ _ _ I r h) λ_ k⟨b,l,I1,m⟩=>?_);exact h2 a k b l _ _ Q I1 j m
def MZ(K:R7)(n:Nat)(t:NG):TG:=λv d H Q=>∃a b,v=.ref a/\aW K H a b/\b.length=n/\t b d H Q
def Mz(hc:X.calm=true)(h:Np X f t)(hn:(assignEach f X.env).length=n:=by rfl)(g:(assignEach f X.env).findIdx? (·.1)=none:=by rfl):PG X (.Tuple f k c) (MZ X.K n t):=by intro d s j H v u Q I r i;obtain⟨a,m,p,q,w,i⟩:=i;subst p;cases r;obtain⟨x,l,y,A⟩:=I.tuple q;refine assign_Tuple_tuple (I.ok.hd hc) y (by simp[hn,<-w,l.length]) g λh' z=>?_;have I1:aL X d j H {s with heap:=h'}:=I.kept (t':=s.toks) λb o e=>z b o (l_ (kl e)) e;exact h d _ j H m _ Q I1 (by simpa using l) i
def PQ(d e:TE)(t:Ld):TG:=λv a H Q=>d a H λo b=>e a b λi f=>t o i v f λg=>Q a g
def kj(e:PE X o f)(hi:PE X i g)(j:Lf X t)(l:∀v,assign (.Subscript o i c) X.env v=(do
   let d<-holding [v] (eval o X.env)let iv<-holding [v,d] (eval i X.env)standAt c
   holding [v,d,iv] (setItem d iv v)release [v,d,iv] []):=by intro _;rfl):PG X (.Subscript o i c) (PQ f g t):=by intro a s b H v u Q I r h;rw[l];refine a_ (p_ (cq (e a s b H _ I h) λd k⟨x,m,I1,n,p⟩=>?_));refine a_ (p_ (cq (hi a k b m _ I1 p) λiv q⟨y,w,z,r2,A⟩=>?_));refine a_ (wpAny_standAt (a_ (p_ (cq (j a q b w x y v d iv u _ z n r2 r A) λ_ E⟨B,C,D⟩=>?_))));exact wpAny_release ⟨b,B,C,D⟩
def BY(te:TE)(g:TG):TS:=λD a H=>te a H λx b=>g x a b D.nx
def ki(f:PE X e te)(hg:PG X d g)(i:swapsWithSole [d] e c.line X.env=pure false:=by rfl)(j:swappedStores [d] e X.env=pure none:=by rfl)(h1:(assignEach [d] X.env).map (·.2)=[assign d X.env]:=by rfl):PS X (.Assign [d] e c) (BY te g):=by intro a s b H D I h;refine wpAny_Assign_stores (cq (f a s b H _ I h) λv k⟨x,l,I1,m,n⟩=>?_) i j;rw[h1];exact cq (hg a k b l x v _ I1 m n) λ_ o q=>q
def yF(d:X.N.Nodup)(hi:X.N[i]?=some x)(f:NJ X.env.scope x)(g:PE X e te)(j:swapsWith e (some (.Name x a)) c.line X.env=pure false:=by rfl)(l:X.fn x=true\/X.env.scope.names.lookup x=some .local:=by first|exact .inl rfl|exact .inr rfl|assumption):PS X (.Assign [.Name x a] e c) (BY te (kX i)):=by intro b s k H D I h;refine wpAny_Assign_Name (cq (g b s k H _ I h) λv q⟨y,m,I1,n,o⟩=>?_) j;exact z9 I1 d hi f n (λr p=>⟨_,m,p,o⟩) l
end
section
variable{X:Cx}{a:Pos}
end
structure It where
 go:Nat->Hp->Prop
 yld:Nat->Hp->V->Hp->Prop
 stop:Nat->Hp->Prop
def vO(X:Cx)(a:R9)(H:Hp)(b:Addr):Prop:=H b=none/\b≠X.env.locals/\b∉X.fs/\(b∈X.ex\/X.s₀.heap.objs.size<=b)/\(∀x c,X.env.cells.lookup x=some c->c≠b)/\∀p∈X.pn++a,p.1≠b
def aL.fpOk(I:aL X a h H s)(d:s.heap.objs.size<=b)(hn:f b=none):vO X a f b:=by
 refine⟨hn,ov (pu I.lt d),I.nofs d,.inr (n7 I.sz d),λx c e z=>?_,λp g z=>?_⟩
 ·obtain⟨v,q⟩:=I.cell x c e;exact absurd (pu q.lt (by rw[z];exact d)) (ri _)
 ·exact absurd (pu (kl (I.pin p g).1) (by rw[z];exact d)) (ri _)
structure vK(P:Sb)(w:World)(K:R7)(tg:Expr)(J:It)(fp:Sg)(it:Addr)(tn:Nat->Heap->Prop):Prop where
 mem:it∈fp
 obj:∀i h,tn i h->∀b∈fp,∃o,h.get? b=some o/\∀v,o.data≠.cell v
 keep:∀i h h',tn i h->(∀b∈fp,∀o,h.get? b=some o->h'.get? b=some o)->tn i h'
 item:∀(X:Cx),X.prog=P->X.w=w->X.K=K->X.calm=true->∀(i:Nat)(pins:R9)(s:Shared)(σ:St)(H:Hp)(E:R8),aL X pins σ H s->(∀b∈fp,vO X pins H b)->tn i s.heap->J.go i H->wpAny (model P w) X.A (pyNext (.ref it)) (λr s1=>∃u,r=some u/\wpAny (model P w) X.A (letOwnedTupleGo tg (.ref it) u) (λ_ s2=>∃x H',aL X pins σ H' s2/\aU x u/\J.yld i H x H'/\tn (i+1) s2.heap/\∀b∈fp,H' b=none) E s1) E s
 done:∀(X:Cx),X.prog=P->X.w=w->X.K=K->X.calm=true->∀(i:Nat)(pins:R9)(s:Shared)(σ:St)(H:Hp)(E:R8),aL X pins σ H s->(∀b∈fp,vO X pins H b)->tn i s.heap->J.stop i H->wpAny (model P w) X.A (pyNext (.ref it)) (λr s1=>r=none/\aL X pins σ H s1) E s
 self:∀(A:Around)(i:Nat)(s:Shared)(Q:R8)(E:R8),tn i s.heap->Q (.ref it) s->wpAny (model P w) A (pyIter (.ref it)) Q E s
abbrev TI:=St->Hp->(It->Hp->Prop)->Prop
def P1(X:Cx)(a:R9)(g:St)(h:Expr)(R:It->Hp->Prop)(c:Value)(e:Shared):Prop:=∃(f:Addr)(fp:Sg)(tn:Nat->Heap->Prop)(J:It)(d:Hp),c=.ref f/\aL X a g d e/\vK X.prog X.w X.K h J fp f tn/\tn 0 e.heap/\(∀b∈fp,vO X a d b)/\R J d
def PI(X:Cx)(d c:Expr)(e:TI):Prop:=∀(a:R9)(s:Shared)(b:St)(H:Hp)(R:It->Hp->Prop),aL X a b H s->e b H R->wpAny (model X.prog X.w) X.A (eval c X.env) (λv f=>wpAny (model X.prog X.w) X.A (pyIter v) (P1 X a b d R) X.xe f) X.xe s
def xJ(c:s.heap.get? d=some o)(hc:o.cls=.type n)(hd:o.data=.fields e)(hn:["enumerate","zip","dict_itemiterator","dict_reverseitemiterator","odict_iterator","itertools.zip_longest","itertools.pairwise"].contains n=false)(a:Q () s):wpAny M A (letOwnedTupleGo f (.ref d) u) Q E s:=by unfold letOwnedTupleGo;cases f<;>first|exact e_ a|(cases u<;>first
 |exact e_ a
    |(refine a_ (wpAny_load c ?_)
      rw[hc,hd];show wpAny M A (if(["enumerate","zip","dict_itemiterator","dict_reverseitemiterator","odict_iterator","itertools.zip_longest","itertools.pairwise"].contains n&&e[0]?==some (rawInt _))=true then _ else _) Q E s;rw[ku (by intro h;rw[hn,Bool.false_and]at h;cases h)];exact e_ a))
def LH(K:R7)(a:Addr):It:=⟨λi H=>∃b x,aX K H a b/\b[i]?=some x,λi H x c=>c=H/\∀b,aX K H a b->b[i]?=some x,λi H=>∃b,aX K H a b/\b.length<=i⟩
def LG(K:R7)(a:Addr):It:=⟨λi H=>∃b x,aW K H a b/\b[i]?=some x,λi H x c=>c=H/\∀b,aW K H a b->b[i]?=some x,λi H=>∃b,aW K H a b/\b.length<=i⟩
def Je(lo:Int)(n:Nat):It:=⟨λi _=>i<n,λi H x a=>a=H/\x=.int (lo+i),λi _=>n<=i⟩
def Ee{P:Sb}{w:World}{K:R7}{J:Expr}(a g:Addr):vK P w K J (LH K a) [g] g (λi h=>h.IsListIter g a i)where
 mem:=by simp
 obj:=λi h st b j=>by
  have e:b=g:=by simpa using j
  subst e;obtain⟨o,e,c,d⟩:=st;exact⟨o,e,λv z=>by rw[d]at z;cases z⟩
 keep:=λi h h' st k=>st.at λo e=>k g (by simp) o e
 item:=by intro X q r t hc i f s G H E I m st hg;subst q r t;obtain⟨L,x,n,y⟩:=hg;obtain⟨A,B,p,M⟩:=I.list n;obtain⟨u,N,ru⟩:=B.get y;obtain⟨C,f1,f2,f3,D,F⟩:=m g (by simp);refine wpAny_pyNext_list_item st p.isList (x:=u) (by simpa using N) λh' l O=>?_;have I1:aL X f G H {s with heap:=h'}:=I.turned (t':=s.toks) (λb o j e=>(O.2 b j).trans e) C f1 f3 D F;obtain⟨o,e,c,d⟩:=id l;exact⟨u,rfl,xJ (s:={s with heap:=h'}) e c d (by decide) ⟨x,H,I1,ru,⟨rfl,λT R=>by rw[I.list_inj R n];exact y⟩,l,λb j=>(m b j).1⟩⟩
 done:=by intro X q r t hc i f s G H E I m st hg;subst q r t;obtain⟨L,n,y⟩:=hg;obtain⟨A,B,p,M⟩:=I.list n;obtain⟨C,f1,f2,f3,D,F⟩:=m g (by simp);have U:=B.length;exact wpAny_pyNext_list_end (I.ok.hd hc) st p.isList (by simp;lia) λh' S=>⟨rfl,I.turned (t':=s.toks) (λb o j e=>S b o j e) C f1 f3 D F⟩
 self:=λ_ _ _ _ _ st h=>wpAny_pyIter_listiter st h
def BV{P:Sb}{w:World}{K:R7}{J:Expr}(a g:Addr):vK P w K J (LG K a) [g] g (λi h=>h.IsTupleIter g a i)where
 mem:=by simp
 obj:=λi h st b j=>by
  have e:b=g:=by simpa using j
  subst e;obtain⟨o,e,c,d⟩:=st;exact⟨o,e,λv z=>by rw[d]at z;cases z⟩
 keep:=λi h h' st k=>st.at λo e=>k g (by simp) o e
 item:=by intro X r t y hc i f s G H E I n st hg;subst r t y;obtain⟨L,x,q,A⟩:=hg;obtain⟨l,B,p,M⟩:=I.tuple q;obtain⟨u,N,ru⟩:=B.get A;obtain⟨C,f1,f2,f3,D,F⟩:=n g (by simp);refine wpAny_pyNext_tuple_item st (show s.heap.IsTuple a l.toArray from p) (x:=u) (by simpa using N) λh' m O=>?_;have I1:aL X f G H {s with heap:=h'}:=I.turned (t':=s.toks) (λb o j e=>(O.2 b j).trans e) C f1 f3 D F;obtain⟨o,e,c,d⟩:=id m;exact⟨u,rfl,xJ (s:={s with heap:=h'}) e c d (by decide) ⟨x,H,I1,ru,⟨rfl,λT R=>by rw[I.tuple_inj R q];exact A⟩,m,λb j=>(n b j).1⟩⟩
 done:=by intro X r t y hc i f s G H E I n st hg;subst r t y;obtain⟨L,q,A⟩:=hg;obtain⟨l,B,p,M⟩:=I.tuple q;obtain⟨C,f1,f2,f3,D,F⟩:=n g (by simp);have U:=B.length;exact wpAny_pyNext_tuple_end (I.ok.hd hc) st (show s.heap.IsTuple a l.toArray from p) (by simp;lia) λh' S=>⟨rfl,I.turned (t':=s.toks) (λb o j e=>S b o j e) C f1 f3 D F⟩
 self:=λ_ _ _ _ _ st h=>wpAny_pyIter_tupleiter st h
def BW{P:Sb}{w:World}{K:R7}{x:Expr}(a:Addr)(lo:Int)(n:Nat):vK P w K x (Je lo n) [a] a (λi h=>IsRangeIter h a (lo+(i:Nat)*1) ((n:Int)-(i:Nat)) 1)where
 mem:=by simp
 obj:=λi h st b d=>by
  have e:b=a:=by simpa using d
  subst e;exact⟨_,st,λv z=>by have y:Data.fields _=Data.cell v:=z;cases y⟩
 keep:=λi h h' st k=>k a (by simp) _ st
 item:=by intro X j l m hc i c s u H E I g st hg;subst j l m;obtain⟨p,f1,f2,f3,q,r⟩:=g a (by simp);have W:=Walks.range (prog:=X.prog) (w:=X.w) (I.ok.hd hc) a lo 1 n;refine W.item i s _ _ hg st λv h' tk A f B=>?_;obtain⟨t,rfl⟩:=A;have I1:aL X c u H {s with heap:=h',toks:=tk}:=I.turned (λb o d e=>B b o (by simpa using d) e) p f1 f3 q r;refine⟨_,rfl,xJ (s:={s with heap:=h',toks:=tk}) (n:="range_iterator") f rfl rfl (by decide) ⟨.int (lo+i),H,I1,⟨t,?_⟩,⟨rfl,rfl⟩,f,λb d=>(g b d).1⟩⟩;rw[Int.mul_one]
 done:=by intro X j l m hc i c s u H E I g st hg;subst j l m;obtain⟨p,f1,f2,f3,q,r⟩:=g a (by simp);exact wpAny_pyNext_range_end (I.ok.hd hc) st (by have:n<=i:=hg;lia) λh' C=>⟨rfl,I.turned (t':=s.toks) (λb o d e=>C b o d e) p f1 f3 q r⟩
 self:=λ_ _ _ _ _ st h=>wpAny_pyIter_rangeiter st h
end L2
namespace L2
open PySem PySem.Spec PyProof.Rows
section
variable{X:Cx}{c:Expr}
def Ls(K:R7)(d:TE):TI:=λe H R=>d e H λx b=>∃a,x=.ref a/\(∃f,aX K b a f)/\R (LH K a) b
def OM(K:R7)(d:TE):TI:=λe H R=>d e H λx b=>∃a,x=.ref a/\(∃f,aW K b a f)/\R (LG K a) b
def J9{l:Expr}{g:TE}(i:PE X l g):PI X c l (Ls X.K g):=by
 intro d s j H R I h;refine cq (i d s j H _ I h) λv f⟨x,k,I1,m,n⟩=>?_;obtain⟨a,e,⟨w,r⟩,q⟩:=n;subst e;cases m;obtain⟨t,y,p,z⟩:=I1.list r;refine K_ p.isList ?_;refine⟨f.heap.objs.size,[f.heap.objs.size],_,_,k,rfl,I1.kept (t':=f.toks) λb o e=>b_ _ e,Ee a _,⟨_,g_ _ rfl,rfl,rfl⟩,λb u=>?_,q⟩;have e:b=f.heap.objs.size:=by simpa using u
 subst e;exact I1.fpOk (f_ _) (I1.hok.fresh (f_ _))
def Mx{l:Expr}{i:TE}(j:PE X l i):PI X c l (OM X.K i):=by
 intro d s k H R I h;refine cq (j d s k H _ I h) λv f⟨x,m,I1,n,r⟩=>?_;obtain⟨a,e,⟨w,t⟩,q⟩:=r;subst e;cases n;obtain⟨g,y,p,z⟩:=I1.tuple t;refine z4 (show f.heap.IsTuple a g.toArray from p) ?_;refine⟨f.heap.objs.size,[f.heap.objs.size],_,_,m,rfl,I1.kept (t':=f.toks) λb o e=>b_ _ e,BV a _,⟨_,g_ _ rfl,rfl,rfl⟩,λb u=>?_,q⟩;have e:b=f.heap.objs.size:=by simpa using u
 subst e;exact I1.fpOk (f_ _) (I1.hok.fresh (f_ _))
def Ar{a:R9}{d:St}{H:Hp}{s:Shared}{R:It->Hp->Prop}{E:R8}{lo hi:Int}{t u v:Tok}{tk:Nat}(I:aL X a d H s)(h1:-(2^62)<=lo)(h2:lo<2^62)(h3:-(2^62)<=hi)(h4:hi<2^62)(q:R (Je lo (hi-lo).toNat) H):wpAny (model X.prog X.w) X.A (pyIter (.ref s.heap.objs.size)) (P1 X a d c R) E {s with heap:=s.heap.push {cls:=.type "range",data:=.fields #[.int lo t,.int hi u,.int 1 v]},toks:=tk}:=by
 refine wpAny_pyIter_range (IsRange.new ..) (small_one h1 h2 h3 h4) ?_;have I1:aL X a d H {s with heap:=s.heap.push {cls:=.type "range",data:=.fields #[.int lo t,.int hi u,.int 1 v]},toks:=tk}:=I.kept λb o e=>b_ _ e;refine⟨(s.heap.push {cls:=.type "range",data:=.fields #[.int lo t,.int hi u,.int 1 v]}).objs.size,[(s.heap.push {cls:=.type "range",data:=.fields #[.int lo t,.int hi u,.int 1 v]}).objs.size],_,_,H,rfl,I1.kept (t':=tk) λb o e=>b_ _ e,BW _ lo (hi-lo).toNat,?_,λb f=>?_,q⟩
 ·have g:lo+((0:Nat):Int)*1=lo:=by simp
  have h:(((hi-lo).toNat:Nat):Int)-((0:Nat):Int)=Builtin.Range.rangeSize lo hi 1:=by rw[rangeSize_one];split<;>lia
  show IsRangeIter _ _ (lo+((0:Nat):Int)*1) ((((hi-lo).toNat:Nat):Int)-((0:Nat):Int)) 1;rw[g,h];exact g_ _ rfl
 ·have e:b=(s.heap.push {cls:=.type "range",data:=.fields #[.int lo t,.int hi u,.int 1 v]}).objs.size:=by simpa using f
  subst e;exact I1.fpOk (f_ _) (I1.hok.fresh (f_ _))
def OO(a:TA):TI:=λb H R=>a b H λd e=>∃j:Int,d=[.int j]/\-(2^62)<=j/\j<2^62/\R (Je 0 j.toNat) e
def ON(a:TA):TI:=λb H R=>a b H λd e=>∃i j:Int,d=[.int i,.int j]/\(-(2^62)<=i/\i<2^62/\-(2^62)<=j/\j<2^62)/\R (Je i (j-i).toNat) e
def cP{a:Expr}{g:TA}{p d:Pos}(hg:Gl X "range")(hm:X.mg "range"=none)(i:PA X [a] g)(l:starEach [a] X.env=[(false,eval a X.env)]:=by rfl):PI X c (.Call (.Name "range" p) [a] [] d) (OO g):=by intro b s k H R I h;refine Call_ (lK I hg hm boot_range (z3 (cq (i d b s k H _ I h) λu v⟨w,x,I1,m,f⟩=>?_) l rfl));obtain⟨j,e,f,n,q⟩:=f;subst e;cases m with|cons r o=>cases o;obtain⟨t,rfl⟩:=r;exact call_range_1 (Ar I1 (by lia) (by lia) f n (by simpa using q))
def xx(hg:Gl X "range")(hm:X.mg "range"=none)(n:PA X [a,b] o)(u:starEach [a,b] X.env=[(false,eval a X.env),(false,eval b X.env)]:=by rfl)(d:starEach [b] X.env=[(false,eval b X.env)]:=by rfl):PI X c (.Call (.Name "range" p) [a,b] [] g) (ON o):=by intro f s m H R I h;refine Call_ (lK I hg hm boot_range (z3 (cq (n g f s m H _ I h) λA B⟨C,D,I1,v,k⟩=>?_) (by rw[u,d]) (by rw[d];rfl)));obtain⟨i,j,e,⟨k,w,x,y⟩,q⟩:=k;subst e;cases v with|cons r l=>cases l with|cons z l=>cases l;obtain⟨t,rfl⟩:=r;obtain⟨E,rfl⟩:=z;exact call_range_2 (Ar I1 k w x y q)
def Pu(h:TI)(g:TG)(j:TS):TS:=λD a H=>h a H λJ k=>∃W:Nat->Nat->St->Hp->Prop,(∃m,W 0 m a k)/\∀i m a H,W i m a H->(J.stop i H/\D.nx a H)\/(J.go i H/\∃N:St->Hp->Prop,(∀b d,N b d->∃f,f<m/\W (i+1) f b d)/\∀x d,J.yld i H x d->g x a d λe l=>j {D with nx:=N,ct:=N,bk:=D.nx} e l)
def uR(fp:Sg)(h:Heap):List (Addr×Obj):=fp.filterMap λb=>(h.get? b).map λo=>(b,o)
def lI(a:b∈fp)(e:h.get? b=some o):(b,o)∈uR fp h:=QN.mpr ⟨b,a,by rw[e];rfl⟩
def EN(a:p∈uR fp h):p.1∈fp/\h.get? p.1=some p.2:=by obtain⟨b,d,e⟩:=QN.mp a;cases q:h.get? b with|none=>rw[q]at e;cases e|some o=>rw[q]at e;have f:(b,o)=p:=m_ e;subst f;exact⟨d,q⟩
def aL.pinned(I:aL X a h H s)(i:∀b∈fp,vO X a H b)(j:∀b∈fp,∃o,s.heap.get? b=some o/\∀v,o.data≠.cell v):aL X (a++uR fp s.heap) h H s:=I.pins_of λp k=>(List.mem_append.mp k).elim (λz=>I.pin p (qc _ z)) λz=>by obtain⟨f,e⟩:=EN z;obtain⟨l,f1,f2,_⟩:=i p.1 f;obtain⟨o,g,d⟩:=j p.1 f;rw[e]at g;cases g;exact⟨e,l,f1,f2,d⟩
def aL.unpinned(I:aL X (a++pl) d H s):aL X a d H s:=I.pins_of λp b=>I.pin p (qc _ (D2 _ b))
def dy(F:PassesOwn (model X.prog X.w) X.A X.env X.xe)(hc:X.calm=true)(hi:PI X c B wi)(hg:PG X c g)(l:xi X G tb)(hs:∀x,foldedSetIterable B X.env x=pure x:=by intro _;rfl):PS X (.For c B G [] aa) (Pu wi g tb):=by
 intro a s Z H D I h;refine wpAny_For (cq (hi a s Z H _ I h) λv s1 h1=>cq h1 λad s2 h2=>?_) hs;obtain⟨it,fp,tn,J,H2,e,I2,T,Q,f2,W,⟨m0,w0⟩,K⟩:=h2;subst e;have k:∀{z:Hp},(∀b∈fp,z b=none)->∀b∈fp,vO X a z b:=λhn b l=>⟨hn b l,(f2 b l).2⟩;refine codeAny_forLoop_any (λn s'=>∃i p z,aL X a p z s'/\tn i s'.heap/\(∀b∈fp,z b=none)/\W i n p z) ?_ m0 ⟨0,Z,H2,I2,Q,λb l=>(f2 b l).1,w0⟩;rintro n s3⟨i,q,P,I3,L,M,w3⟩;rcases K i n q P w3 with⟨stop,qn⟩|⟨go,N,hN,step⟩
 ·refine QD F (cq (T.done X rfl rfl rfl hc i a s3 q P X.xe I3 (k M) L stop) λr s4⟨R,I4⟩=>?_);subst R;exact H_ ⟨q,P,I4,qn⟩
 ·refine QD F (cq (T.item X rfl rfl rfl hc i a s3 q P X.xe I3 (k M) L go) λr s4⟨u,R,h4⟩=>?_);subst R;refine QD F (cq h4 λ_ s5⟨x,H5,I5,r5,y5,E,S⟩=>?_);have U:=I5.pinned (k S) (T.obj _ _ E);refine QD F (cq (hg _ s5 q H5 x u _ U r5 (step x H5 y5)) λ_ s6⟨V,H6,I6,q6⟩=>?_);refine QD F (cq (l _ s6 V H6 _ I6 q6) λf Y C=>?_);have again:∀{j:St}{t:Hp},aL X (a++uR fp s5.heap) j t Y->N j t->∃m,m<n/\∃i p z,aL X a p z Y/\tn i Y.heap/\(∀b∈fp,z b=none)/\W i m p z:=λ{j t}y O=>by obtain⟨m',hm,w7⟩:=hN j t O;refine⟨m',hm,i+1,j,t,y.unpinned,T.keep _ _ _ E λb l o e=>(y.pin (b,o) (qc _ (qc _ (lI l e)))).1,λb l=>?_,w7⟩;obtain⟨o,e,d⟩:=T.obj _ _ E b l;exact(y.pin (b,o) (qc _ (qc _ (lI l e)))).2.1
  cases f with|next=>obtain⟨j,t,y,O⟩:=C;exact again y O|cont=>obtain⟨j,t,y,O⟩:=C;exact again y O|brk=>obtain⟨j,t,y,C⟩:=C;exact⟨j,t,y.unpinned,C⟩|ret v=>obtain⟨x7,j,t,y,r7,C⟩:=C;exact⟨x7,j,t,y.unpinned,r7,C⟩
end
def gn{K:R7}{a:Addr}{xs:List V}{g:TG}{l:TS}{D:ql}{c:St}{H:Hp}(Pv:Nat->St->Hp->Prop)(h0:Pv 0 c H)(o:∀i c H,i<=xs.length->Pv i c H->aX K H a xs)(r:∀i x c H,xs[i]?=some x->Pv i c H->g x c H λd j=>l {D with nx:=Pv (i+1),ct:=Pv (i+1),bk:=D.nx} d j)(hd:∀c H,Pv xs.length c H->D.nx c H):∃W:Nat->Nat->St->Hp->Prop,(∃m,W 0 m c H)/\∀i m c H,W i m c H->((LH K a).stop i H/\D.nx c H)\/((LH K a).go i H/\∃N:St->Hp->Prop,(∀f h,N f h->∃n,n<m/\W (i+1) n f h)/\∀x h,(LH K a).yld i H x h->g x c h λd j=>l {D with nx:=N,ct:=N,bk:=D.nx} d j):=by
 refine⟨λi m c H=>m=xs.length-i/\i<=xs.length/\Pv i c H,⟨xs.length,by simp,n0 _,h0⟩,?_⟩;rintro i m c H⟨rfl,hi,p⟩;have q:=o i c H hi p
 by_cases b:i<xs.length
 ·refine .inr ⟨⟨xs,xs[i],q,by simp[b]⟩,Pv (i+1),λf h k=>⟨xs.length-(i+1),by lia,rfl,b,k⟩,λx h y=>?_⟩;obtain⟨e,y⟩:=y;subst e;exact r i x c _ (y xs q) p
 ·have e:i=xs.length:=by lia
  subst e;exact .inl ⟨⟨xs,q,f_ _⟩,hd c H p⟩
def KS{K:R7}{a:Addr}{xs:List V}{g:TG}{l:TS}{D:ql}{c:St}{H:Hp}(Pv:Nat->St->Hp->Prop)(h0:Pv 0 c H)(o:∀i c H,i<=xs.length->Pv i c H->aW K H a xs)(r:∀i x c H,xs[i]?=some x->Pv i c H->g x c H λd j=>l {D with nx:=Pv (i+1),ct:=Pv (i+1),bk:=D.nx} d j)(hd:∀c H,Pv xs.length c H->D.nx c H):∃W:Nat->Nat->St->Hp->Prop,(∃m,W 0 m c H)/\∀i m c H,W i m c H->((LG K a).stop i H/\D.nx c H)\/((LG K a).go i H/\∃N:St->Hp->Prop,(∀f h,N f h->∃n,n<m/\W (i+1) n f h)/\∀x h,(LG K a).yld i H x h->g x c h λd j=>l {D with nx:=N,ct:=N,bk:=D.nx} d j):=by
 refine⟨λi m c H=>m=xs.length-i/\i<=xs.length/\Pv i c H,⟨xs.length,by simp,n0 _,h0⟩,?_⟩;rintro i m c H⟨rfl,hi,p⟩;have q:=o i c H hi p
 by_cases b:i<xs.length
 ·refine .inr ⟨⟨xs,xs[i],q,by simp[b]⟩,Pv (i+1),λf h k=>⟨xs.length-(i+1),by lia,rfl,b,k⟩,λx h y=>?_⟩;obtain⟨e,y⟩:=y;subst e;exact r i x c _ (y xs q) p
 ·have e:i=xs.length:=by lia
  subst e;exact .inl ⟨⟨xs,q,f_ _⟩,hd c H p⟩
def gH{lo:Int}{n:Nat}{g:TG}{j:TS}{D:ql}{a:St}{H:Hp}(Pv:Nat->St->Hp->Prop)(h0:Pv 0 a H)(o:∀i a H,i<n->Pv i a H->g (.int (lo+i)) a H λc h=>j {D with nx:=Pv (i+1),ct:=Pv (i+1),bk:=D.nx} c h)(hd:∀a H,Pv n a H->D.nx a H):∃W:Nat->Nat->St->Hp->Prop,(∃m,W 0 m a H)/\∀i m a H,W i m a H->((Je lo n).stop i H/\D.nx a H)\/((Je lo n).go i H/\∃N:St->Hp->Prop,(∀d f,N d f->∃l,l<m/\W (i+1) l d f)/\∀x f,(Je lo n).yld i H x f->g x a f λc h=>j {D with nx:=N,ct:=N,bk:=D.nx} c h):=by
 refine⟨λi m a H=>m=n-i/\i<=n/\Pv i a H,⟨n,by simp,n0 _,h0⟩,?_⟩;rintro i m a H⟨rfl,hi,p⟩
 by_cases b:i<n
 ·refine .inr ⟨b,Pv (i+1),λd f k=>⟨n-(i+1),by lia,rfl,b,k⟩,λx f y=>?_⟩;obtain⟨e,y⟩:=y;subst e y;exact o i a _ b p
 ·have e:i=n:=by lia
  subst e;exact .inl ⟨f_ _,hd a H p⟩
end L2
namespace L2
open PySem PySem.Spec PyProof.Rows
abbrev R2:=V->V->Hp->VK->Prop
def lV(X:Cx)(f:Value->Value->Sem Value)(r:R2):Prop:=∀(a:R9)(s:Shared)(b:St)(H:Hp)(x y:V)(v u:Value)(Q:VK),aL X a b H s->aU x v->aU y u->r x y H Q->wpAny (model X.prog X.w) X.A (f v u) (EP X a b Q) X.xe s
def PZ(X:Cx)(f:Value->Sem Value)(r:V->Hp->VK->Prop):Prop:=∀(a:R9)(s:Shared)(b:St)(H:Hp)(x:V)(v:Value)(Q:VK),aL X a b H s->aU x v->r x H Q->wpAny (model X.prog X.w) X.A (f v) (EP X a b Q) X.xe s
def cO(X:Cx)(f:Value)(r:List V->Hp->VK->Prop):Prop:=∀(a:R9)(s:Shared)(b:St)(H:Hp)(c:List V)(d:Sa)(Q:VK),aL X a b H s->a9 c d->r c H Q->wpAny (model X.prog X.w) X.A (call f d) (EP X a b Q) X.xe s
def P0(X:Cx)(r:V->Hp->(Bool->Hp->Prop)->Prop):Prop:=∀(a:R9)(s:Shared)(b:St)(H:Hp)(x:V)(v:Value)(Q:Bool->Hp->Prop),aL X a b H s->aU x v->r x H Q->wpAny (model X.prog X.w) X.A (truthy v) (TP X a b Q) X.xe s
def Nx(r:R2)(c d:TE):TE:=λa H Q=>c a H λx b=>d a b λy e=>r x y e Q
def tUn(r:V->Hp->VK->Prop)(a:TE):TE:=λb H Q=>a b H λx c=>r x c Q
def rI(C:Int->Int->Prop)(g:Int->Int->V):R2:=λx y H Q=>∃i j,x=.int i/\y=.int j/\C i j/\Q (g i j) H
def J1(g:Int->Int->V):R2:=λx y H Q=>∃i j,x=.int i/\y=.int j/\Q (g i j) H
def rU(g:Int->V):V->Hp->VK->Prop:=λx H Q=>∃i,x=.int i/\Q (g i) H
section
variable{X:Cx}{a b c:Expr}{d l tc:TE}{e:Pos}
def Ng(q:PE X a d)(r:PE X b l){g:R9}{s:Shared}{i:St}{H:Hp}{R:V->V->Hp->Prop}(I:aL X g i H s)(h:d i H λx p=>l i p λy j=>R x y j){Q:R8}{f:Value->Value->Sem Value}(t:∀v u o x y j,aL X g i j o->aU x v->aU y u->R x y j->wpAny (model X.prog X.w) X.A (f v u) Q X.xe o):wpAny (model X.prog X.w) X.A (eval a X.env) (λv s₁=>wpAny (model X.prog X.w) X.A (eval b X.env) (λu n=>wpAny (model X.prog X.w) X.A (f v u) Q X.xe n) X.xe s₁) X.xe s:=by refine cq (q g s i H _ I h) λv k⟨x,p,I1,m,z⟩=>?_;refine cq (r g k i p _ I1 z) λu o⟨y,j,B,r2,C⟩=>?_;exact t v u o x y j B m r2 C
def av{g:Operator}{r:R2}(i:lV X (binaryOp g) r)(j:PE X a d)(n:PE X b l):PE X (.BinOp a g b e) (Nx r d l):=by intro f s k H Q I h;exact wpAny_BinOp (Ng j n I h λv u m x y o p t w q=>i f m k o x y v u Q p t w q)
def Oq(i:PZ X (unaryOp j) r)(n:PE X a d):PE X (.UnaryOp j a e) (tUn r d):=by intro f s g H Q I h;exact UnaryOp_ (cq (n f s g H _ I h) λv k⟨x,m,I1,o,p⟩=>i f k g m x v Q I1 o p)
def Ou{f:Value->Value->Sem Value}{C:Int->Int->Prop}{g:Int->Int->Int}(rule:∀(i j:Int)(t u:Tok)(s:Shared)(Q:R8)(E:R8),C i j->Q (.int (g i j) s.toks) {s with toks:=s.toks+1}->wpAny (model X.prog X.w) X.A (f (.int i t) (.int j u)) Q E s):lV X f (rI C λi j=>.int (g i j)):=by intro k s p H x y v u Q I m n h;obtain⟨i,j,rfl,rfl,hc,q⟩:=h;obtain⟨t,rfl⟩:=m;obtain⟨o,rfl⟩:=n;exact rule i j t o s _ _ hc ⟨.int (g i j),H,I.tok _,⟨_,rfl⟩,q⟩
def MF{f:Value->Value->Sem Value}{g:Int->Int->Int}(rule:∀(i j:Int)(t u:Tok)(s:Shared)(Q:R8)(E:R8),Q (.int (g i j) s.toks) {s with toks:=s.toks+1}->wpAny (model X.prog X.w) X.A (f (.int i t) (.int j u)) Q E s):lV X f (J1 λi j=>.int (g i j)):=by intro k s p H x y v u Q I m n h;obtain⟨i,j,rfl,rfl,q⟩:=h;obtain⟨t,rfl⟩:=m;obtain⟨o,rfl⟩:=n;exact rule i j t o s _ _ ⟨.int (g i j),H,I.tok _,⟨_,rfl⟩,q⟩
def Ki{f:Value->Value->Sem Value}{g:Int->Int->Bool}(rule:∀(i j:Int)(t u:Tok)(s:Shared)(Q:R8)(E:R8),Q (.bool (g i j)) s->wpAny (model X.prog X.w) X.A (f (.int i t) (.int j u)) Q E s):lV X f (J1 λi j=>.bl (g i j)):=by intro k s p H x y v u Q I m n h;obtain⟨i,j,rfl,rfl,q⟩:=h;obtain⟨t,rfl⟩:=m;obtain⟨o,rfl⟩:=n;exact rule i j t o s _ _ ⟨.bl (g i j),H,I,rfl,q⟩
def fh(i j:Int):Prop:=0<j/\j<1073741824
def P6(i j:Int):Prop:=0<=j/\j<=1000000/\i.natAbs<2^64
def Nt(i j:Int):Prop:=(-(2^64)<i/\i<2^64)\/(-(2^64)<j/\j<2^64)
def Nt.ok(h:Nt i j):IntMulOk i j:=by
 rcases h with⟨h1,h2⟩|⟨h1,h2⟩
 ·exact .of_left (intBits_le_64 h1 h2)
 ·exact .of_right (intBits_le_64 h1 h2)
def two_pow_nn(k:Nat):(0:Int)<=2^k:=by rw[two_pow_cast];exact tx _
def bG:lV X (binaryOp .Add) (J1 λi j=>.int (i+j)):=MF λ_ _ _ _ _ _ _ q=>add_int q
def fq:lV X (binaryOp .Sub) (J1 λi j=>.int (i-j)):=MF λ_ _ _ _ _ _ _ q=>sub_int q
def fE:lV X (binaryOp .Mult) (rI Nt λi j=>.int (i*j)):=Ou λ_ _ _ _ _ _ _ hc q=>mul_int q hc.ok
def bF:lV X (binaryOp .FloorDiv) (rI fh λi j=>.int (i/j)):=Ou λi j _ _ _ _ _ hc q=>by have h1:(0:Int)<j:=hc.1;have h2:j<1073741824:=hc.2;exact floordiv_int (by lia) (by rw[QQ i (by lia)];exact q) (.inl (PyProof.noPylong_small (by lia)))
def aQ:lV X (binaryOp .Mod) (rI (λ_ j=>0<j) λi j=>.int (i%j)):=Ou λi j _ _ _ _ _ hc q=>by have h1:(0:Int)<j:=hc;exact mod_int' (by lia) (by rw[Int.fmod_eq_emod_of_nonneg i (by lia)];exact q)
def MD:lV X (binaryOp .Pow) (rI P6 λi j=>.int (i^j.toNat)):=Ou λ_ _ _ _ _ _ _ hc q=>pow_int_small hc.1 hc.2.1 hc.2.2 q
def MC:lV X (binaryOp .RShift) (rI (λ_ j=>0<=j) λi j=>.int (i/2^j.toNat)):=Ou λi j _ _ _ _ _ hc q=>rshift_int hc (by rw[QQ i (two_pow_nn _)];exact q)
def GY:lV X (binaryOp .BitAnd) (J1 λi j=>.int (Builtin.bitAnd i j)):=MF λ_ _ _ _ _ _ _ q=>and_int q
def unI{f:Value->Sem Value}{g:Int->Int}(rule:∀(i:Int)(t:Tok)(s:Shared)(Q:R8)(E:R8),Q (.int (g i) s.toks) {s with toks:=s.toks+1}->wpAny (model X.prog X.w) X.A (f (.int i t)) Q E s):PZ X f (rU λi=>.int (g i)):=by intro j s m H x v Q I k h;obtain⟨i,rfl,q⟩:=h;obtain⟨t,rfl⟩:=k;exact rule i t s _ _ ⟨.int (g i),H,I.tok _,⟨_,rfl⟩,q⟩
def LQ:PZ X (unaryOp .USub) (rU λi=>.int (-i)):=unI λ_ _ _ _ _ q=>neg_int q
end
def fm:V->V->Bool|.non,.non=>true|.non,.int _=>true|.int _,.non=>true|.non,.bl _=>true|.bl _,.non=>true|.non,.str _=>true|.str _,.non=>true|.int _,.int _=>true|.bl _,.bl _=>true|.str _,.str _=>true|.byt _,.byt _=>true|.int _,.str _=>true|.str _,.int _=>true|.bl _,.str _=>true|.str _,.bl _=>true|_,_=>false
def rEq:R2:=λx y H Q=>fm x y=true/\Q (.bl (decide (x=y))) H
def rNe:R2:=λx y H Q=>fm x y=true/\Q (.bl (!decide (x=y))) H
def DP:decide (V.int i=V.int j)=(i==j):=by rw[Rj];simp
def Iu:decide (V.bl i=V.bl j)=(i==j):=by rw[Rj];simp
def DO:decide (V.str i=V.str j)=(i==j):=by rw[Rj];simp
def DQ:decide (V.byt i=V.byt j)=(i.toList==j.toList):=by rw[Rj];cases i;cases j;simp
section
variable{X:Cx}{a b c:Expr}{f g tc:TE}{l:Pos}
def bH(I:aL X d h H s)(q:Q (.bl k) H)(e:k=i):EP X d h Q (.bool i) s:=by subst e;exact⟨.bl k,H,I,rfl,q⟩
def aS:lV X (compareOp .Eq) rEq:=by intro n s o H x y v u Q I m d h;obtain⟨k,q⟩:=h;cases x with
 |non=>cases m;cases y with|non=>cases d;exact PySem.EqNone.eq_none_none (bH I q (by simp))|bl j=>cases d;exact PySem.EqNone.eq_none_bool (bH I q (by simp))|int j=>obtain⟨e,rfl⟩:=d;exact PySem.EqNone.eq_none_int (bH I q (by simp))|str j=>obtain⟨e,rfl⟩:=d;exact PySem.EqNone.eq_none_str (bH I q (by simp))|_=>exact absurd (show false=true from k) mo
 |bl i=>cases m;cases y with|non=>cases d;exact PySem.EqNone.eq_bool_none (bH I q (by simp))|bl j=>cases d;exact eq_bool (bH I q Iu)|str j=>obtain⟨e,rfl⟩:=d;exact PySem.EqMixed.eq_bool_str (bH I q (by simp))|_=>exact absurd (show false=true from k) mo
 |int i=>obtain⟨t,rfl⟩:=m;cases y with|non=>cases d;exact PySem.EqNone.eq_int_none (bH I q (by simp))|int j=>obtain⟨e,rfl⟩:=d;exact eq_int (bH I q DP)|str j=>obtain⟨e,rfl⟩:=d;exact PySem.EqMixed.eq_int_str (bH I q (by simp))|_=>exact absurd (show false=true from k) mo
 |str i=>obtain⟨t,rfl⟩:=m;cases y with|non=>cases d;exact PySem.EqNone.eq_str_none (bH I q (by simp))|bl j=>cases d;exact PySem.EqMixed.eq_str_bool (bH I q (by simp))|int j=>obtain⟨e,rfl⟩:=d;exact PySem.EqMixed.eq_str_int (bH I q (by simp))|str j=>obtain⟨e,rfl⟩:=d;exact eq_str (bH I q DO)|_=>exact absurd (show false=true from k) mo
 |byt i=>obtain⟨t,rfl⟩:=m;cases y with|byt j=>obtain⟨e,rfl⟩:=d;exact PySem.W.eq_bytes (bH I q DQ)|_=>exact absurd (show false=true from k) mo
 |_=>cases y<;>exact absurd (show false=true from k) mo
def GV:lV X (compareOp .NotEq) rNe:=by intro n s o H x y v u Q I m d h;obtain⟨k,q⟩:=h;cases x with
 |non=>cases m;cases y with|non=>cases d;exact PySem.EqNone.ne_none_none (bH I q (by simp))|bl j=>cases d;exact PySem.EqNone.ne_none_bool (bH I q (by simp))|int j=>obtain⟨e,rfl⟩:=d;exact PySem.EqNone.ne_none_int (bH I q (by simp))|str j=>obtain⟨e,rfl⟩:=d;exact PySem.EqNone.ne_none_str (bH I q (by simp))|_=>exact absurd (show false=true from k) mo
 |bl i=>cases m;cases y with|non=>cases d;exact PySem.EqNone.ne_bool_none (bH I q (by simp))|bl j=>cases d;exact ne_bool (bH I q (tA not Iu))|str j=>obtain⟨e,rfl⟩:=d;exact PySem.EqMixed.ne_bool_str (bH I q (by simp))|_=>exact absurd (show false=true from k) mo
 |int i=>obtain⟨t,rfl⟩:=m;cases y with|non=>cases d;exact PySem.EqNone.ne_int_none (bH I q (by simp))|int j=>obtain⟨e,rfl⟩:=d;exact ne_int (bH I q (tA not DP))|str j=>obtain⟨e,rfl⟩:=d;exact PySem.EqMixed.ne_int_str (bH I q (by simp))|_=>exact absurd (show false=true from k) mo
 |str i=>obtain⟨t,rfl⟩:=m;cases y with|non=>cases d;exact PySem.EqNone.ne_str_none (bH I q (by simp))|bl j=>cases d;exact PySem.EqMixed.ne_str_bool (bH I q (by simp))|int j=>obtain⟨e,rfl⟩:=d;exact PySem.EqMixed.ne_str_int (bH I q (by simp))|str j=>obtain⟨e,rfl⟩:=d;exact ne_str (bH I q (tA not DO))|_=>exact absurd (show false=true from k) mo
 |byt i=>obtain⟨t,rfl⟩:=m;cases y with|byt j=>obtain⟨e,rfl⟩:=d;exact PySem.W.ne_bytes (bH I q (tA not DQ))|_=>exact absurd (show false=true from k) mo
 |_=>cases y<;>exact absurd (show false=true from k) mo
def Az:lV X (compareOp .Lt) (J1 λi j=>.bl (decide (i<j))):=Ki λ_ _ _ _ _ _ _ q=>lt_int q
def jQ:lV X (compareOp .LtE) (J1 λi j=>.bl (decide (i<=j))):=Ki λ_ _ _ _ _ _ _ q=>le_int q
def sf:lV X (compareOp .Gt) (J1 λi j=>.bl (decide (j<i))):=Ki λ_ _ _ _ _ _ _ q=>gt_int q
def GX:lV X (compareOp .GtE) (J1 λi j=>.bl (decide (j<=i))):=Ki λ_ _ _ _ _ _ _ q=>ge_int q
def EG:lV X (compareOp .In) (λx y H Q=>∃i j,x=.str i/\y=.str j/\Q (.bl (!(Builtin.Str.occurrences j i 0 j.length 1).isEmpty)) H):=by intro d s m H x y v u Q I e k h;obtain⟨i,j,rfl,rfl,q⟩:=h;obtain⟨t,rfl⟩:=e;obtain⟨n,rfl⟩:=k;exact in_str (bH I q rfl)
def GW:lV X (compareOp .Is) (λx y H Q=>y=.non/\Q (.bl (decide (x=.non))) H):=by intro d s j H x y v u Q I e i h;obtain⟨rfl,q⟩:=h;cases i;refine is_none_gen (bH I q ?_);cases x<;>first|(cases e;rfl)|(obtain⟨t,rfl⟩:=e;rfl)
def Kf:lV X (compareOp .IsNot) (λx y H Q=>y=.non/\Q (.bl (!decide (x=.non))) H):=by intro d s j H x y v u Q I e i h;obtain⟨rfl,q⟩:=h;cases i;refine isnot_none_gen (bH I q ?_);cases x<;>first|(cases e;rfl)|(obtain⟨t,rfl⟩:=e;rfl)
def aF(b:Expr)(h:d≠.In:=by decide)(h2:d≠.NotIn:=by decide):behindInMarks d b=false:=by
 have e:(d==CmpOp.In)=false:=by cases d<;>first|rfl|exact absurd rfl h
 have i:(d==CmpOp.NotIn)=false:=by cases d<;>first|rfl|exact absurd rfl h2
 cases b<;>simp[behindInMarks,e,i]
def bX(i:lV X (compareOp e) r)(j:PE X a f)(n:PE X b g)(hm:behindInMarks e b=false):PE X (.Compare a [e] [b] l) (Nx r f g):=by intro d s k H Q I h;exact wpAny_Compare1 (Ng j n I h λv u m x y o p t w q=>i d m k o x y v u Q p t w q) hm
def Ll(t:TE):TT:=λd H Q=>t d H λx e=>∃k,x=.bl k/\Q k e
def aE(n:lV X (compareOp j) r)(o:PE X a f)(p:PE X b g)(hm:behindInMarks j b=false):PT X (.Compare a [j] [b] l) (Ll (Nx r f g)):=by
 intro d s i H Q I h;refine wpAny_isTrue_Compare1 (cq (o d s i H _ I h) λv m⟨x,q,I1,t,w⟩=>cq (p d m i q _ I1 w) λu A⟨y,B,C,r2,D⟩=>cq (n d A i B x y v u _ C t r2 D) λc K⟨z,E,F,G,k,e,J⟩=>?_) hm
 subst e;cases G;exact r4 ⟨E,F,J⟩
def F0(r h:R2)(f g tc:TE):TE:=λd H Q=>f d H λx i=>g d i λy j=>r x y j λz e=>∃k,z=.bl k/\(if k=true then tc d e λm n=>h y m n Q else Q (.bl false) e)
def uT(w:lV X (compareOp o) r)(n:lV X (compareOp j) A)(B:PE X a f)(C:PE X b g)(hc:PE X c tc)(hm:lastMarks [o,j] [b,c]=false:=by with_unfolding_all rfl):PE X (.Compare a [o,j] [b,c] l) (F0 r A f g tc):=by
 intro i s m H Q I h;refine Compare_chain (cq (B i s m H _ I h) λv D⟨x,E,I1,F,G⟩=>chain_link (cq (C i D m E _ I1 G) λu J⟨y,K,L,r2,M⟩=>cq (w i J m K x y v u _ L F r2 M) λd N⟨z,p,q,O,k,e,t⟩=>?_)) hm
 subst e;cases O;refine r4 ?_;cases k with|false=>exact ite_ff ⟨.bl false,p,q,rfl,t⟩|true=>exact ite_tt (chain_last (cq (hc i N m p _ q t) λP R⟨S,T,U,V,W⟩=>n i R m T y S u P Q U r2 V W))
def As(w:lV X (compareOp o) r)(n:lV X (compareOp j) A)(B:PE X a f)(C:PE X b g)(hc:PE X c tc)(hm:lastMarks [o,j] [b,c]=false:=by with_unfolding_all rfl):PT X (.Compare a [o,j] [b,c] l) (Ll (F0 r A f g tc)):=by
 intro i s m H Q I h;refine isTrue_chain (cq (B i s m H _ I h) λv D⟨x,E,I1,F,G⟩=>test_link (cq (C i D m E _ I1 G) λu J⟨y,K,L,r2,M⟩=>cq (w i J m K x y v u _ L F r2 M) λd N⟨z,p,q,O,k,e,t⟩=>?_)) hm
 subst e;cases O;refine r4 ?_;cases k with|false=>obtain⟨k',P,R⟩:=t;cases P;exact ite_ff ⟨p,q,R⟩|true=>refine ite_tt (test_last (cq (hc i N m p _ q t) λS T⟨U,V,W,Y,Z⟩=>cq (n i T m V y U u S _ W r2 Y Z) λd' s5⟨z2,H5,I5,r5,k2,e2,q5⟩=>?_));subst e2;cases r5;exact r4 ⟨H5,I5,q5⟩
def Nl(K:R7)(x:V)(H:Hp)(k:Bool):Prop:=match x with|.non=>k=false|.bl b=>k=b|.int i=>k=(i !=0)|.str y=>y.length<=sizeLine/\k=((y.length:Int)!=0)|.byt y=>y.size<=sizeLine/\k=((y.size:Int)!=0)|.ref p=>(∃d,aX K H p d/\k=!d.isEmpty)\/(∃d,aW K H p d/\k=!d.isEmpty)\/∃e,H p=some (.dK e)/\k=!e.isEmpty|_=>False
def CU(r:KV d e):(!e.isEmpty)=!d.isEmpty:=by cases r<;>rfl
def vh(r:a9 e d):(!d.toArray.isEmpty)=!e.isEmpty:=by cases r<;>simp
def qR:(sizeLine:Nat)<2^63:=by rw[lm];decide
def LS:P0 X (λx H Q=>∃k,Nl X.K x H k/\Q k H):=by intro C s G H x v Q I u h;obtain⟨k,e,q⟩:=h;have J:=qR;have L:sizeLine=16777216:=lm;cases x with|non=>cases u;have d:k=false:=e;subst d;exact truthy_none ⟨H,I,q⟩|bl b=>cases u;have d:k=b:=e;subst d;exact r4 ⟨H,I,q⟩|int i=>obtain⟨t,rfl⟩:=u;have d:k=(i !=0):=e;subst d;exact PySem.P.truthy_int ⟨H,I,q⟩|str y=>obtain⟨t,rfl⟩:=u;obtain⟨E,d⟩:y.length<=sizeLine/\k=((y.length:Int)!=0):=e;subst d;exact PySem.P.truthy_str (by lia) ⟨H,I.tok _,q⟩|byt y=>obtain⟨t,rfl⟩:=u;obtain⟨E,d⟩:y.size<=sizeLine/\k=((y.size:Int)!=0):=e;subst d;exact PySem.W.truthy_bytes (by lia) ⟨H,I.tok _,q⟩|ref p=>
  cases u;have d:(∃o,aX X.K H p o/\k=!o.isEmpty)\/(∃o,aW X.K H p o/\k=!o.isEmpty)\/∃j,H p=some (.dK j)/\k=!j.isEmpty:=e;rcases d with⟨o,z,d⟩|⟨o,z,d⟩|⟨j,z,d⟩
  ·subst d;obtain⟨B,r,pl,D⟩:=I.list z;have n:=r.length;exact wpAny_truthy_list pl.isList (by simp only[lh];lia) ⟨H,I.tok _,by rw[vh r];exact q⟩
  ·subst d;obtain⟨B,r,pl,D⟩:=I.tuple z;have n:=r.length;exact truthy_tuple pl (by simp only[lh];lia) ⟨H,I.tok _,by rw[vh r];exact q⟩
  ·subst d;obtain⟨D,F,A,r,m⟩:j.length<=sizeLine/\(p==sysModules)=false/\∃A,KV j A/\s.heap.DictOf (aK X.prog X.w) p A:=I.hok p _ z;have n:j.length=A.length:=Paired.length r;exact wpAny_truthy_dict F m (by lia) ⟨H,I.tok _,by rw[CU r];exact q⟩|_=>exact(show False from e).elim
def GO(n:PE X a f)(o:∀d,isTrue a X.env d=(do let v<-d;standAt a.pos;holding [v] (truthy v))):PT X a (λi H Q=>f i H λx j=>∃k,Nl X.K x j k/\Q k j):=by intro e s i H Q I h;exact isTrue_plain (cq (n e s i H _ I h) λv m⟨x,p,I1,q,r⟩=>LS e m i p x v Q I1 q r) (o _)
def jl:lV X (binaryOp .Add) (λx y H Q=>∃i j,x=.str i/\y=.str j/\i.length+j.length<=sizeLine/\Q (.str (i++j)) H):=by intro d s o H x y v u Q I e k h;obtain⟨i,j,rfl,rfl,m,q⟩:=h;obtain⟨t,rfl⟩:=e;obtain⟨n,rfl⟩:=k;exact add_str (λn tk=>⟨.str (i++j),H,I.tok _,⟨_,rfl⟩,q⟩) m
def jJ(r:a9 [x] d):∃u,d=[u]/\aU x u:=by cases r with|cons e r2=>cases r2;exact⟨_,rfl,e⟩
def xm(r:a9 [x,y] e):∃u d,e=[u,d]/\aU x u/\aU y d:=by cases r with|cons h r2=>cases r2 with|cons i j=>cases j;exact⟨_,_,rfl,h,i⟩
def Fy(hc:X.calm=true):cO X (.builtin "max") (λe H Q=>∃i j,e=[.int i,.int j]/\Q (.int (if j>i then j else i)) H):=by
 intro m s n H e o Q I r h;obtain⟨i,j,rfl,q⟩:=h;obtain⟨u,p,rfl,⟨t,rfl⟩,⟨v,rfl⟩⟩:=xm r;refine max_two_ints (I.ok.hd hc) λh' tk k=>⟨_,H,I.kept k,?_,q⟩
 by_cases d:j>i
 ·rw[kw d,kw d];exact⟨_,rfl⟩
 ·rw[ku d,ku d];exact⟨_,rfl⟩
def rL(hc:X.calm=true):cO X (.builtin "min") (λe H Q=>∃i j,e=[.int i,.int j]/\Q (.int (if j<i then j else i)) H):=by
 intro m s n H e o Q I r h;obtain⟨i,j,rfl,q⟩:=h;obtain⟨u,p,rfl,⟨t,rfl⟩,⟨v,rfl⟩⟩:=xm r;refine min_two_ints (I.ok.hd hc) λh' tk k=>⟨_,H,I.kept k,?_,q⟩
 by_cases d:j<i
 ·rw[kw d,kw d];exact⟨_,rfl⟩
 ·rw[ku d,ku d];exact⟨_,rfl⟩
def O4(K:R7)(x:V)(H:Hp)(n:Nat):Prop:=match x with|.str y=>y.length<=sizeLine/\n=y.length|.byt y=>y.size<=sizeLine/\n=y.size|.ref p=>(∃d,aX K H p d/\n=d.length)\/∃d,aW K H p d/\n=d.length|_=>False
def IJ:cO X (.builtin "len") (λd H Q=>∃x n,d=[x]/\O4 X.K x H n/\Q (.int n) H):=by
 intro w s B H d C Q I r h;obtain⟨x,n,rfl,e,q⟩:=h;obtain⟨u,rfl,k⟩:=jJ r;have D:=qR;have E:sizeLine=16777216:=lm;cases x with|str y=>obtain⟨t,rfl⟩:=k;obtain⟨z,j⟩:y.length<=sizeLine/\n=y.length:=e;subst j;exact len_str (by lia) ⟨.int _,H,I.tok _,⟨_,rfl⟩,q⟩|byt y=>obtain⟨t,rfl⟩:=k;obtain⟨z,j⟩:y.size<=sizeLine/\n=y.size:=e;subst j;exact PySem.W.len_bytes (by lia) ⟨.int _,H,I.tok _,⟨_,rfl⟩,q⟩|ref p=>
  cases k;have j:(∃d,aX X.K H p d/\n=d.length)\/∃d,aW X.K H p d/\n=d.length:=e;rcases j with⟨d,m,j⟩|⟨d,m,j⟩
  ·subst j;obtain⟨o,v,pl,A⟩:=I.list m;have i:=v.length;exact Calls.call_len_list pl.isList (by simp only[lh];lia) ⟨.int d.length,H,I.tok _,⟨_,by simp only[lh];rw[i]⟩,q⟩
  ·subst j;obtain⟨o,v,pl,A⟩:=I.tuple m;have i:=v.length;exact len_tuple pl (by simp only[lh];lia) ⟨.int d.length,H,I.tok _,⟨_,by simp only[lh];rw[i]⟩,q⟩|_=>exact(show False from e).elim
def Bx:cO X (.builtin "divmod") (λd H Q=>∃i j,d=[.int i,.int j]/\fh i j/\∀p,H p=none->Q (.ref p) (aA H p (.tup [.int (i/j),.int (i%j)]))):=by intro k s m H d n Q I r h;obtain⟨i,j,rfl,⟨h1,h2⟩,q⟩:=h;obtain⟨u,v,rfl,⟨t,rfl⟩,⟨w,rfl⟩⟩:=xm r;refine divmod_int (by lia) ?_ (.inl (PyProof.noPylong_small (by lia)));rw[QQ i (by lia),Int.fmod_eq_emod_of_nonneg i (by lia)];have hn:H s.heap.objs.size=none:=I.hok.fresh (f_ _);refine⟨.ref s.heap.objs.size,_,?_,rfl,q _ hn⟩;refine I.laid (λb o e=>b_ _ e) (f_ _) ⟨by simp only[ol,List.length_nil];rw[lm];decide,[.int (i/j) s.toks,.int (i%j) (s.toks+1)],.cons ⟨_,rfl⟩ (.cons ⟨_,rfl⟩ .nil),?_⟩;exact⟨_,g_ s.heap rfl,rfl,0,rfl⟩
end
end L2
namespace L2
open PySem PySem.Spec PyProof.Rows
structure Dr(h:Heap)(x dx C:Addr)(mA:R_):Prop where
 obj:h.get? x=some (PySem.W.instObj C dx)ns:h.Ns1 dx mA
 ne:dx≠x
def EU{h:Heap}{dx:Addr}{d:R_}(n:h.Ns1 dx d):∃f,h.get? dx=some f/\∀c,PySem.W.lookIn c f=some (d c):=by
 obtain⟨o,g,m,i,hd,j,_,hm⟩:=n;refine⟨o,i,λc=>?_⟩;have e:=hm c;unfold nsFind findBy at e;rw[<-Array.find?_toList]at e;unfold PySem.W.lookIn;rw[hd];dsimp only
 split
 ·rename_i y q;rw[q]at e;exact tA some e
 ·rename_i q;rw[q]at e;have a:g.toList.any (·.refKey)=false:=by rw[List.any_eq_false];intro y k;obtain⟨z,t,b⟩:=j y (Array.mem_toList_iff.mp k);simp[DictEntry.refKey,b]
  have l:¬g.toList.any (·.refKey)=true:=by rw[a];exact mo
  rw[ku l];exact tA some e
def Dr.look(I:Dr h x dx C d):∃c,PySem.W.InstAt h x (PySem.W.instObj C dx) C (some c)/\∀a,PySem.W.lookIn a c=some (d a):=let⟨c,b,e⟩:=EU I.ns
 ⟨c,⟨I.obj,rfl,rfl,b⟩,e⟩
section
variable{prog:Sb}{w:World}{A:Around}{E:R8}{s:Shared}{K:R7}{x dx C f:Addr}{e:R_}{c:Str}{v:Value}
def KP(X:K.In s.heap)(I:Dr s.heap x dx C e)(hg:PySem.W.plainGet K C c=true)(hh:PySem.W.hasDictIn K C=true)(g:PySem.W.findIn K (.ref C) c=some none)(i:e c=some v)(a:PySem.W.handedIn v=true)(h:Q v {s with toks:=s.toks+1}):wpAny (model prog w) A (getAttr (.ref x) c d) Q E s:=by obtain⟨j,J,b⟩:=I.look;exact PySem.W.get_value X J (PySem.W.plainGet_of hg).1 (PySem.W.findObj_own hh g rfl (by rw[b,i])) a h
def HY(X:K.In s.heap)(I:Dr s.heap x dx C e)(hg:PySem.W.plainGet K C c=true)(a:PySem.W.findIn K (.ref C) c=some (some (.ref f)))(d:PySem.W.isFn K (.ref f)=true)(g:e c=none)(h:Q (.ref f,[.ref x]) s):wpAny (model prog w) A (getMethod (.ref x) c pl) Q E s:=by obtain⟨b,J,i⟩:=I.look;exact PySem.W.method_fn X J (PySem.W.plainGet_of hg).1 (PySem.W.plainGet_of hg).2 a (beq_iff_eq.mp d) (by show(PySem.W.lookIn c b).map (·.isSome)=some false;rw[i,g];rfl) h
def hU(X:K.In s.heap)(I:Dr s.heap x dx C e)(n:PySem.W.findIn K (.ref C) "__setattr__"=some (some (.builtin "object.__setattr__")))(o:PySem.W.plainOver K C=true)(p:PySem.W.takerIn K C c=some none)(hh:PySem.W.hasDictIn K C=true)(q:PySem.Within e ns)(t:ns.length<=sizeLine)(h:∀h',Dr h' x dx C (λy=>if y=c then some v else e y)->Heap.SameBut dx s.heap h'->Q () {s with heap:=h',toks:=s.toks+2}):wpAny (model prog w) A (setAttr (.ref x) c v) Q E s:=by obtain⟨B,J,D⟩:=I.look;refine PySem.W.set_plain X J n (PySem.W.osa_open (s:={s with toks:=s.toks+1}) (r:=none) X J o p λb=>?_);obtain⟨cd,hc,i⟩:=PySem.W.any_some hh;have m:s.heap.get? x=some ⟨.ref C,some dx,.plain,#[]⟩:=I.obj;refine a_ (e_ (a_ (a_ (wpAny_loadPart m (a_ (PySem.W.Looks.here (s:={s with toks:=s.toks+1}) (PySem.W.looks_clsIn X hc) ?_))))));rw[i];refine e_ (a:=some dx) (a_ (e_ (a_ ?_)));refine wpAny_nsSet1 (s:={s with toks:=s.toks+1}) I.ns λh' d g=>?_;obtain⟨F,u,z,j,k,l⟩:=d.count (PySem.Within.cons c v q);refine a_ (wpAny_lookBehind j (by rw[k];exact pastItsLine_dict (n7 l (by rw[ol];lia))) ?_);exact e_ (h _ ⟨(g.2 _ (pv I.ne)).trans I.obj,d,I.ne⟩ g)
def Ho(X:K.In s.heap)(hm:PySem.W.makesIn K C=true)(hi:PySem.W.findIn K (.ref C) "__init__"=some (some (.ref f)))(j:PySem.W.typeIn K (.ref f)=some (.type "function"))(h:codeAny (model prog w) (A.under (.builtin "type.__call__" ⟨.ref C::a,i⟩)) (.call (.ref f) ⟨.ref (s.heap.objs.size+1)::a,i⟩) (PySem.W.InitBack (s.heap.objs.size+1) R) {s with heap:=(s.heap.push PySem.W.emptyDict).push (PySem.W.instObj C s.heap.objs.size)}):codeAny (model prog w) A (.call (.ref C) ⟨a,i⟩) R s:=by obtain⟨hh,g,d,t,os⟩:=s;exact PySem.W.make_core (PySem.W.makes_of X hm) (PySem.W.looks_findIn X hi) (λself=>PySem.W.bind_fn X self j) (.inl rfl) h
end
def eL(f:Str)(v:V):List (Str×V)->List (Str×V)|[]=>[(f,v)]|(g,x)::r=>if g=f then(g,v)::r else(g,x)::eL f v r
theorem sx(f g:Str)(v:V):∀fs:List (Str×V),(eL f v fs).lookup g=if g=f then some v else fs.lookup g
 |[]=>by
  show List.lookup g [(f,v)]=_
  by_cases h:g=f
  ·have a:(g==f)=true:=beq_iff_eq.mpr h;simp only[List.lookup,a,kw h]
  ·have a:(g==f)=false:=Es.mpr h;simp only[List.lookup,a,ku h]|(k,x)::r=>by
  have c:=sx f g v r;rw[show eL f v ((k,x)::r)=(if k=f then(k,v)::r else(k,x)::eL f v r)from rfl]
  by_cases b:k=f
  ·rw[kw b]
   by_cases h:g=k
   ·have a:(g==k)=true:=beq_iff_eq.mpr h;simp only[List.lookup,a,kw (h.trans b)]
   ·have a:(g==k)=false:=Es.mpr h;simp only[List.lookup,a,ku (λe:g=f=>h (e.trans b.symm))]
  ·rw[ku b]
   by_cases h:g=k
   ·have a:(g==k)=true:=beq_iff_eq.mpr h;simp only[List.lookup,a,ku (λe:g=f=>b (h.symm.trans e))]
   ·have a:(g==k)=false:=Es.mpr h;simp only[List.lookup,a];exact c
theorem rn(f:Str)(v:V):∀fs:List (Str×V),f∈(eL f v fs).map (·.1)/\∀g,g∈fs.map (·.1)->g∈(eL f v fs).map (·.1)
 |[]=>⟨by simp[eL],λg h=>by simp at h⟩|(k,x)::r=>by
  obtain⟨b,c⟩:=rn f v r;rw[show eL f v ((k,x)::r)=(if k=f then(k,v)::r else(k,x)::eL f v r)from rfl]
  by_cases a:k=f
  ·rw[kw a];subst a;exact⟨by simp,λg h=>by simpa using h⟩
  ·rw[ku a];refine⟨?_,λg h=>?_⟩
   ·rw[oD];exact k4 _ b
   ·rw[oD]at h⊢;rcases pw.mp h with e|e
    ·exact pw.mpr (.inl e)
    ·exact k4 _ (c g e)
theorem sy(f:Str)(v:V):∀fs:List (Str×V),(eL f v fs).length<=fs.length+1
 |[]=>by simp[eL]|(k,x)::r=>by
  have b:=sy f v r;rw[show eL f v ((k,x)::r)=(if k=f then(k,v)::r else(k,x)::eL f v r)from rfl]
  by_cases a:k=f
  ·rw[kw a,ol,ol];lia
  ·rw[ku a,ol,ol];lia
def k7.some_of(r:k7 (some v) o):∃u,o=some u/\aU v u:=by cases o with|none=>exact(show False from r).elim|some u=>exact⟨u,rfl,r⟩
def k7.none_of(r:k7 none o):o=none:=by cases o with|none=>rfl|some u=>exact(show False from r).elim
def Fb(r:aU v u):PySem.W.handedIn u=true:=by cases v with|non=>cases(show u=Value.none from r);rfl|bl b=>cases(show u=Value.bool b from r);rfl|int i=>obtain⟨t,e⟩:=(show∃t,u=Value.int i t from r);cases e;rfl|str x=>obtain⟨t,e⟩:=(show∃t,u=Value.str x t from r);cases e;rfl|byt b=>obtain⟨t,e⟩:=(show∃t,u=Value.bytes b t from r);cases e;rfl|flt b=>obtain⟨t,e⟩:=(show∃t,u=Value.float b t from r);cases e;rfl|ref a=>cases(show u=Value.ref a from r);rfl|ty n=>cases(show u=Value.type n from r);rfl
section
variable{P:Sb}{w:World}{H g:Hp}{h h':Heap}{a C dx:Addr}{fs c:List (Str×V)}
def t4(hok:lY P w H h)(e:H a=some (.ins C dx fs)):∃i,Dr h a dx C i/\(∀f,k7 (fs.lookup f) (i f))/\PySem.Within i (fs.map (·.1))/\fs.length<=1000/\H dx=some (.own a):=by obtain⟨d,z,ne,ob,i,n,r,q⟩:=(show cX P w H h a (.ins C dx fs)from hok a _ e);exact⟨i,⟨ob,n,ne⟩,r,q,z,d⟩
end
structure zR(K:R7)(C:Addr):Prop where
 pg:PySem.W.plainGet K C Str.empty=true
 hd:PySem.W.hasDictIn K C=true
 po:PySem.W.plainOver K C=true
 sa:PySem.W.findIn K (.ref C) "__setattr__"=some (some (.builtin "object.__setattr__"))
def zR.get{K:R7}{C:Addr}(c:zR K C)(f:Str):PySem.W.plainGet K C f=true:=c.pg
def aT(K:R7)(C:Addr)(f:Str):Prop:=PySem.W.findIn K (.ref C) f=some none
def aT.taker{K:R7}{C:Addr}{f:Str}(n:aT K C f):PySem.W.takerIn K C f=some none:=by unfold PySem.W.takerIn;rw[show PySem.W.findIn K (.ref C) f=some none from n];rfl
structure Ja(K:R7)(C:Addr)(m:Str)(f:Addr):Prop where
 at_:PySem.W.findIn K (.ref C) m=some (some (.ref f))fn:PySem.W.isFn K (.ref f)=true
 kp:PySem.W.keepIn K (.ref f)=true
section
variable{X:Cx}{d:R9}{i:St}{H:Hp}{s:Shared}{a C dx:Addr}{fs:List (Str×V)}{f:Str}{v:V}{A:Around}{E:R8}
def C3(I:aL X d i H s)(e:H a=some (.ins C dx fs))(c:zR X.K C)(n:aT X.K C f)(l:fs.lookup f=some v)(h:∀u g,aL X d i H g->aU v u->Q u g):wpAny (model X.prog X.w) A (getAttr (.ref a) f b) Q E s:=by obtain⟨j,O,r,_,_,_⟩:=t4 I.hok e;obtain⟨u,k,ru⟩:=k7.some_of (v:=v) (o:=j f) (by rw[<-l];exact r f);exact KP I.kIn O (c.get f) c.hd n k (Fb ru) (h u _ (I.tok _) ru)
def oJ(I:aL X d i H s)(e:H a=some (.ins C dx fs))(c:zR X.K C)(k:Ja X.K C m g)(l:fs.lookup m=none)(h:Q (.ref g,[.ref a]) s):wpAny (model X.prog X.w) A (getMethod (.ref a) m pl) Q E s:=by obtain⟨b,O,r,_,_,_⟩:=t4 I.hok e;have hn:b m=none:=k7.none_of (by rw[<-l];exact r m);exact HY I.kIn O (c.get m) k.at_ k.fn hn h
def B3(I:aL X d i H s)(e:H a=some (.ins C dx fs))(c:zR X.K C)(n:aT X.K C f)(J:fs.length<1000)(t:aU y u)(h:∀l,aL X d i (aA H a (.ins C dx (eL f y fs))) l->Q () l):wpAny (model X.prog X.w) A (setAttr (.ref a) f u) Q E s:=by
 obtain⟨k,O,r,m,_,p⟩:=t4 I.hok e;have B:(fs.map (·.1)).length<=sizeLine:=by rw[c_,lm];lia
 refine hU I.kIn O c.sa c.po n.taker c.hd m B λh' j D=>h _ ?_;have hd:∃o,h'.get? dx=some o:=let⟨o,_,_,F,_⟩:=j.ns;⟨o,F⟩;refine I.write (x:=a) (e:=dx) (by rw[e];exact True.intro) (.inr p) (λb q G z=>(D.2 b G).trans z) hd ?_;refine⟨by rw[ak O.ne];exact p,?_,O.ne,j.obj,_,j.ns,λg=>?_,λg hg=>?_⟩
 ·have:=sy f y fs;lia
 ·show k7 ((eL f y fs).lookup g) (if g=f then some u else k g);rw[sx]
  by_cases q:g=f
  ·rw[kw q,kw q];exact t
  ·rw[ku q,ku q];exact r g
 ·by_cases q:g=f
  ·rw[q];exact(rn f y fs).1
  ·refine(rn f y fs).2 g (m g λz=>hg ?_);show(if g=f then some u else k g)=none;rw[ku q];exact z
def aL.made(I:aL X d i H s):aL X d i (aA (aA H s.heap.objs.size (.own (s.heap.objs.size+1))) (s.heap.objs.size+1) (.ins C s.heap.objs.size [])) {s with heap:=(s.heap.push PySem.W.emptyDict).push (PySem.W.instObj C s.heap.objs.size)}:=by
 have c:(s.heap.push PySem.W.emptyDict).get? s.heap.objs.size=some PySem.W.emptyDict:=g_ s.heap rfl;have g:((s.heap.push PySem.W.emptyDict).push (PySem.W.instObj C s.heap.objs.size)).get? (s.heap.objs.size+1)=some (PySem.W.instObj C s.heap.objs.size):=by
  have:=g_ (s.heap.push PySem.W.emptyDict) (o:=PySem.W.instObj C s.heap.objs.size) rfl
  rwa[op]at this
 have h:(s.heap.push PySem.W.emptyDict).Ns s.heap.objs.size (λ_=>none):=⟨PySem.W.emptyDict,#[],_,c,rfl,(λe j=>absurd j (by simp)),λ_=>rfl⟩;have I1:=I.laid (a:=s.heap.objs.size) (o:=.own (s.heap.objs.size+1)) (h':=s.heap.push PySem.W.emptyDict) (t':=s.toks) (λb u q=>b_ _ q) (f_ _) ⟨_,c⟩;refine I1.laid (a:=s.heap.objs.size+1) (o:=.ins C s.heap.objs.size []) (t':=s.toks) (λb u q=>b_ _ q) (Qo (op _ _)) ?_;have ne:s.heap.objs.size≠s.heap.objs.size+1:=l_ (rV _);refine⟨by rw[ak ne,ae],n0 _,ne,g,λ_=>none,(Heap.Ns1.of_empty h).at λo q=>b_ _ q,λ_=>True.intro,λy l=>absurd rfl l⟩
def K5(c:attributeBase e f env (eval e env)=eval e env)(h:wpAny (model prog w) A (eval e env) (λo s₁=>wpAny (model prog w) A (getAttr o f true) Q E s₁) E s):wpAny (model prog w) A (eval (.Attribute e f g) env) Q E s:=Attribute_any_ h (by rw[arm_eval_Attribute,c])
end
def N7(K:R7)(c:TE)(f:Str):TE:=λd H Q=>c d H λx b=>∃a C dx fs v,x=.ref a/\b a=some (.ins C dx fs)/\zR K C/\aT K C f/\fs.lookup f=some v/\Q v b
def Oi(K:R7)(d e:TE)(f:Str):TS:=λD b H=>e b H λy g=>d b g λx c=>∃a C dx fs,x=.ref a/\c a=some (.ins C dx fs)/\zR K C/\aT K C f/\fs.length<1000/\D.nx b (aA c a (.ins C dx (eL f y fs)))
section
variable{X:Cx}{o e d:Expr}{f:Str}{i g r:Pos}{j p:TE}
def MB(t:PE X e j)(w:attributeBase e f X.env (eval e X.env)=eval e X.env):PE X (.Attribute e f i) (N7 X.K j f):=by intro b s k H Q I h;refine K5 w (cq (t b s k H _ I h) λu B⟨x,m,I1,y,a,C,dx,fs,v,ex,z,c,n,l,q⟩=>?_);subst ex;obtain rfl:u=Value.ref a:=y;exact C3 I1 z c n l λD E A ru=>⟨v,m,A,ru,q⟩
def Mv(t:PE X o j)(v:PE X d p)(w:swapsWith d (some (.Attribute o f g)) i.line X.env=pure false):PS X (.Assign [.Attribute o f g] d i) (Oi X.K j p f):=by intro b s k H D I h;refine plainObj_wpAny_Assign_Attribute (cq (v b s k H _ I h) λu m⟨y,z,I1,A,q⟩=>cq (t b m k z _ I1 q) λB M⟨x,N,E,F,a,C,dx,fs,ex,G,c,n,l,J⟩=>?_) w;subst ex;obtain rfl:B=Value.ref a:=F;exact B3 E G c n l A λO L=>⟨k,_,L,J⟩
end
section
variable{X:Cx}{d:R9}{f:St}{H:Hp}{s:Shared}{A:Around}{E:R8}{Q:R8}{c:Value}{b:Bool}
inductive mI(K:R7)(H:Hp):V->Value->Prop where|non:mI K H .non (.type "NoneType")|bl(x:Bool):mI K H (.bl x) (.type "bool")|int(i:Int):mI K H (.int i) (.type "int")|str(x:Str):mI K H (.str x) (.type "str")|flt(x:UInt64):mI K H (.flt x) (.type "float")|lst{a:Addr}{xs:List V}(e:H a=some (.lst xs)):mI K H (.ref a) (.type "list")|frz{a:Addr}{o:Obj}{xs:List V}(e:H a=some (.frz o (.lst xs))):mI K H (.ref a) (.type "list")|tup{a:Addr}{xs:List V}(e:H a=some (.tup xs)):mI K H (.ref a) (.type "tuple")|dK{a:Addr}{kvs:List (cg×V)}(e:H a=some (.dK kvs)):mI K H (.ref a) (.type "dict")|dT{a:Addr}{kvs:List (List cg×V)}(e:H a=some (.dT kvs)):mI K H (.ref a) (.type "dict")|ins{a C dx:Addr}{fs:List (Str×V)}(e:H a=some (.ins C dx fs))(cl:zR K C)(ha:PySem.W.findIn K (.ref C) "__class__"=some (some (.builtin "object.__class__")))(hn:PySem.W.specialIn K (.builtin "object.__class__") "__get__"=some (some (.builtin "getset_descriptor.__get__")))(htk:PySem.W.takesIn K (.builtin "object.__class__")=some true)(hm:PySem.W.mroIn K C (.type "object")=some true):mI K H (.ref a) (.ref C)
def E7(I:aL X d f H s)(g:aU x u)(ty:mI X.K H x t)(e:PySem.W.kitOne X.K t c=some b)(h:∀tk,Q (.bool b) {s with toks:=tk}):wpAny (model X.prog X.w) A (call (.builtin "isinstance") [u,c]) Q E s:=by cases ty with|non=>cases(show u=Value.none from g);exact PySem.W.kia_one PySem.W.kitx_none I.kIn True.intro e (nofun) h|bl y=>cases(show u=Value.bool y from g);exact PySem.W.kia_one PySem.W.kitx_bool I.kIn True.intro e (nofun) h|int i=>obtain⟨t,q⟩:=(show∃t,u=Value.int i t from g);cases q;exact PySem.W.kia_one PySem.W.kitx_int I.kIn True.intro e (nofun) h|str y=>obtain⟨t,q⟩:=(show∃t,u=Value.str y t from g);cases q;exact PySem.W.kia_one PySem.W.kitx_str I.kIn True.intro e (nofun) h|flt y=>obtain⟨t,q⟩:=(show∃t,u=Value.float y t from g);cases q;exact PySem.W.kia_one PySem.W.kitx_float I.kIn True.intro e (nofun) h|@lst a l j=>cases(show u=Value.ref a from g);obtain⟨_,_,n,_,h1⟩:=(show cX X.prog X.w H s.heap a (.lst l)from I.hok a _ j);exact PySem.W.kia_one PySem.W.kitx_list I.kIn ⟨_,h1,rfl⟩ e (nofun) h|@frz a ob l j=>cases(show u=Value.ref a from g);obtain⟨_,_,_,n,_,h1⟩:=(show cX X.prog X.w H s.heap a (.frz ob (.lst l))from I.hok a _ j);exact PySem.W.kia_one PySem.W.kitx_list I.kIn ⟨_,h1,rfl⟩ e (nofun) h|@tup a l j=>cases(show u=Value.ref a from g);obtain⟨_,_,_,p⟩:=(show cX X.prog X.w H s.heap a (.tup l)from I.hok a _ j);obtain⟨o,h1,h2,_⟩:=p;exact PySem.W.kia_one PySem.W.kitx_tuple I.kIn ⟨o,h1,h2⟩ e (nofun) h|@dK a k j=>cases(show u=Value.ref a from g);obtain⟨_,_,D,_,p⟩:=(show cX X.prog X.w H s.heap a (.dK k)from I.hok a _ j);obtain⟨o,r,v,h1,h2,_⟩:=p;exact PySem.W.kia_one PySem.W.kitx_dict I.kIn ⟨o,h1,h2.1⟩ e (nofun) h|@dT a k j=>cases(show u=Value.ref a from g);obtain⟨_,_,l,_,o,r,v,h1,h2,_⟩:=(show cX X.prog X.w H s.heap a (.dT k)from I.hok a _ j);exact PySem.W.kia_one PySem.W.kitx_dict I.kIn ⟨o,h1,h2.1⟩ e (nofun) h|@ins a C dx fs j cl B hn m hm=>cases(show u=Value.ref a from g);obtain⟨F,O,_⟩:=t4 I.hok j;obtain⟨G,J,_⟩:=O.look;exact PySem.W.kia_one (PySem.W.kitx_own (cl.get _) cl.hd B hn m hm) I.kIn J e (nofun) h
end
end L2
namespace L2
open PySem PySem.Spec PyProof.Rows
structure eK(k:Nat)(A:Around):Prop where
 hd:A.handled=none
 dp:A.depth+3*k+5<recursionLimit
 un:A.units+16*k+200<cLine
def eK.mono{j k:Nat}{A:Around}(r:eK k A)(h:j<=k):eK j A:=⟨r.hd,by have:=r.dp;lia,by have:=r.un;lia⟩
theorem eK.deeper(r:eK (k+1) A)(env:Env):eK k (A.deeper env):=⟨r.hd,by have:=r.dp;show A.depth+1+3*k+5<_;lia,by have:=r.un;show A.units+3+16*k+200<_;lia⟩
def Cz{A:Around}{C:Addr}{a:Sa}{c:List (Str×Value)}:(A.under (.builtin "type.__call__" ⟨.ref C::a,c⟩)).depth=A.depth+1:=by first|rfl|simp[Around.under,Code.weight,Code.isCreation,Code.isGuard,Code.isCaller,Code.frames,Code.isFrame,guardIds]
def Cy{A:Around}{C:Addr}{a:Sa}{c:List (Str×Value)}:(A.under (.builtin "type.__call__" ⟨.ref C::a,c⟩)).units=A.units+1:=by first|rfl|simp[Around.under,Code.cUnits,Code.frames,Code.isFrame]
def eK.make(r:eK (k+1) A)(C:Addr)(a:Sa)(c:List (Str×Value)):eK k (A.under (.builtin "type.__call__" ⟨.ref C::a,c⟩)):=⟨r.hd,by have:=r.dp;rw[Cz];lia,by have:=r.un;rw[Cy];lia⟩
theorem eK.depth{k:Nat}{A:Around}(r:eK k A):A.depth<recursionLimit:=by have:=r.dp;lia
theorem eK.units{k:Nat}{A:Around}(r:eK k A):A.units+64<cLine:=by have:=r.un;lia
def N4:TA:=λ_ H Q=>Q [] H
def N9(c:TE)(tr:TA):TA:=λa H Q=>c a H λx b=>tr a b λd e=>Q (x::d) e
section
variable{X:Cx}{e:Expr}{c:Sd}{te:TE}{t:TA}{a:Pos}
def O:PA X [] N4:=λ_ _ _ _ H Q I h=>t_ ⟨[],H,I,.nil,h⟩
def ac(f:PE X e te)(g:PA X c t)(i:starEach (e::c) X.env=(false,eval e X.env)::starEach c X.env:=by rfl):PA X (e::c) (N9 te t):=by intro a b s d H Q I h;rw[i];show wpAny _ _ (spliced ((false,eval e X.env)::backTo a (starEach c X.env))) _ _ s;refine rk (cq (f b s d H _ I h) λu j⟨x,k,I1,l,m⟩=>?_);exact cq (g a b j d k _ I1 m) λr v⟨n,o,p,r2,q⟩=>⟨x::n,o,p,.cons l r2,q⟩
def Pp(t:TA):TE:=λf H Q=>t f H λb d=>b.length<=sizeLine/\∀p,d p=none->Q (.ref p) (aA d p (.tup b))
def Pt(t:TA):TE:=λf H Q=>t f H λb d=>b.length<=sizeLine/\∀p,d p=none->Q (.ref p) (aA d p (.lst b))
def bO{i}(h:PA X c t):PE X (.Tuple c i a) (Pp t):=by intro d s j H Q I k;refine wpAny_Tuple_spliced (cq (h a d s j H _ I k) λl f⟨m,g,I1,r,z,q⟩=>⟨by rw[<-r.length];exact z,?_⟩);have n:g f.heap.objs.size=none:=I1.hok.fresh (f_ _);refine⟨.ref f.heap.objs.size,aA g f.heap.objs.size (.tup m),I1.laid (t':=f.toks) (λb u e=>b_ _ e) (f_ _) ?_,rfl,q _ n⟩;exact⟨z,l,r,⟨_,g_ _ rfl,rfl,_,rfl⟩⟩
def bn(h:PA X c t):PE X (.List c a) (Pt t):=by intro d s i H Q I j;refine wpAny_List_spliced (cq (h a d s i H _ I j) λk f⟨l,g,I1,r,z,q⟩=>⟨by rw[<-r.length];exact z,?_⟩);have m:g f.heap.objs.size=none:=I1.hok.fresh (f_ _);refine⟨.ref f.heap.objs.size,aA g f.heap.objs.size (.lst l),I1.laid (t':=f.toks) (λb u e=>b_ _ e) (f_ _) ?_,rfl,q _ m⟩;exact⟨z,k,0,r,g_ _ rfl⟩
end
abbrev Sp:=List V->Hp->VK->XK->Prop
abbrev BS:=List Env->Hp->Shared->XK->Value->Shared->Prop
structure Dt(P:Sb)(w:World)(K:R7)(mg:R_)(base:Heap)(A:Around)(outer:List Env)(s:Shared)(H:Hp):Prop where
 frames:A.frames=some outer
 mod:O3 K mg base
 bs:∀b o,base.get? b=some o->s.heap.get? b=some o/\H b=none
 bsz:base.objs.size<=s.heap.objs.size
 funs:s.heap.FunFrames base outer
 frf:∀b∈jG outer,H b=none
 hok:lY P w H s.heap
 bare:AllBare s.gens
def CE(outer:List Env)(P:Sb)(w:World)(H:Hp)(s:Shared)(Q:VK)(u:Value)(a:Shared):Prop:=∃v b,a.os=s.os/\AllBare a.gens/\Un (jG outer) [] H b s.heap a.heap/\lY P w b a.heap/\aU v u/\Q v b
def CR(c:BS)(outer:List Env)(P:Sb)(w:World)(H:Hp)(s:Shared)(Q:VK)(E:XK)(r:Result)(a:Shared):Prop:=match r with|.ok (.ret u)=>CE outer P w H s Q u a|.ok _=>False|.error e=>c outer H s E e a
structure aO(P:Sb)(w:World)(K:R7)(mg:R_)(base:Heap)(CX:BS)(k:Nat)(f:Addr)(fd:FuncData)(ps:Sc)(sp:Sp):Prop where
 len:∀vs H Q E,sp vs H Q E->vs.length=ps.length
 run:∀(A:Around)(outer:List Env)(s:Shared)(H:Hp)(args:Args)(us:Sa)(vs:List V)(Q:VK)(E:XK),eK k A->Dt P w K mg base A outer s H->BindsTo s fd args (ps.zip us)->a9 vs us->sp vs H Q E->codeAny (model P w) A (.call (.ref f) args) (CR CX outer P w H s Q E) s
theorem aO.mono{P:Sb}{w:World}{K:R7}{mg:R_}{base:Heap}{c:BS}{j k:Nat}{f:Addr}{fd:FuncData}{d:Sc}{sp:Sp}(F:aO P w K mg base c j f fd d sp)(h:j<=k):aO P w K mg base c k f fd d sp:=⟨F.len,λA outer s H a b e Q E g=>F.run A outer s H a b e Q E (g.mono h)⟩
def Dt.make{P:Sb}{w:World}{K:R7}{mg:R_}{base:Heap}{A:Around}{outer:List Env}{s:Shared}{H:Hp}(e:Dt P w K mg base A outer s H)(C:Addr)(a:Sa)(c:List (Str×Value)):Dt P w K mg base (A.under (.builtin "type.__call__" ⟨.ref C::a,c⟩)) outer s H:=⟨by first|exact e.frames|(simpa[Around.under,Code.envs,Code.isFrame,pushEnvs]using e.frames),e.mod,e.bs,e.bsz,e.funs,e.frf,e.hok,e.bare⟩
section
variable{X:Cx}{a:R9}{e:St}{H:Hp}{s c:Shared}
def aL.env0(I:aL X a e H s):Dt X.prog X.w X.K X.mg X.base X.A X.stack s H:=⟨I.ok.frames,I.ok.mod,I.bs,n7 I.ok.bsz I.sz,I.stack,I.stkFree,I.hok,I.bare⟩
def aL.after(I:aL X a e H s)(h:CE X.stack X.prog X.w H s Q u c):EP X a e Q u c:=by obtain⟨v,i,os,bare,un,hok,r,q⟩:=h;obtain⟨hh,g,d,t,f⟩:=c;obtain rfl:f=s.os:=os;exact⟨v,i,I.call (h':=hh) (g':=g) (d':=d) (t':=t) (ch:=[]) un hok bare (λb z=>absurd z (by simp)),r,q⟩
end
def F1(sp:Sp)(a:List V)(E:XK)(t:TA):TE:=λb H Q=>t b H λc d=>sp (c++a) d Q E
def FZ(C:Addr)(m:Str)(sp:Sp)(c:List V)(E:XK)(e:TE)(t:TA):TE:=λb H Q=>e b H λx d=>∃a dx fs,x=.ref a/\d a=some (.ins C dx fs)/\fs.lookup m=none/\t b d λf g=>sp (x::(f++c)) g Q E
def N5(C:Addr)(sp:Sp)(a:List V)(E:XK)(t:TA):TE:=λc H Q=>t c H λd b=>∀x dx,b x=none->b dx=none->dx≠x->sp (.ref x::(d++a)) (aA (aA b dx (.own x)) x (.ins C dx [])) (λv e=>v=.non/\Q (.ref x) e) E
def fW(K:R7)(fd:FuncData)(c:Sc)(ds:Sa):Prop:=∀(s:Shared)(a:Sa),K.In s.heap->(a++ds).length=c.length->BindsTo s fd ⟨a,[]⟩ (c.zip (a++ds))
def fW.all{K:R7}{fd:FuncData}{c:Sc}(h:∀a:List Value,a.length=c.length->bindArgs fd ⟨a,[]⟩=pure (c.zip a)):fW K fd c []:=λs a _ b=>by rw[B_]at b⊢;exact .of_eq (h a b)
def lM(c:BS)(X:Cx)(E:XK):Prop:=∀(a:R9)(d:St)(H:Hp)(s:Shared)(e:Value)(b:Shared),aL X a d H s->c X.stack H s E e b->X.xe e b
section
variable{X:Cx}{y:BS}{k:Nat}{f C:Addr}{fd:FuncData}{n:Sc}{sp:Sp}{g:List V}{ds:Sa}{E:XK}{x m:Str}{p d i:Pos}{e o:Expr}{j:Sd}{z:TE}{t:TA}
def Ca(F:aO X.prog X.w X.K X.mg X.base y k f fd n sp)(l:eK k X.A)(q:fW X.K fd n ds)(hd:a9 g ds)(v:lM y X E)(I:aL X a c H s)(r:a9 vs us)(h:sp (vs++g) H Q E):wpAny (model X.prog X.w) X.A (call (.ref f) us) (EP X a c Q) X.xe s:=by
 have r2:a9 (vs++g) (us++ds):=r.append hd;have B:(us++ds).length=n.length:=by rw[<-r2.length];exact F.len _ _ _ _ h
 refine Q_ (t1 (F.run X.A X.stack s H ⟨us,[]⟩ (us++ds) (vs++g) Q E l I.env0 (q s us I.kIn B) r2 h) λr D b=>?_);cases r with|error e=>exact v a c H s e D I b|ok G=>cases G with|ret u=>exact I.after b|next=>exact False.elim b|brk=>exact False.elim b|cont=>exact False.elim b
def bw(F:aO X.prog X.w X.K X.mg X.base y k f fd n sp)(u:eK k X.A)(hg:Gl X x)(hm:X.mg x=some (.ref f))(v:PySem.W.keepIn X.K (.ref f)=true)(B:fW X.K fd n ds)(hd:a9 g ds)(D:lM y X E)(G:PA X (e::j) t)(c:(x==("__debug__":Str))=false:=by decide)(J:starEach (e::j) X.env=(false,eval e X.env)::starEach j X.env:=by rfl)(l:(backTo d (starEach j X.env)).any (·.1)=false:=by rfl):PE X (.Call (.Name x p) (e::j) [] d) (F1 sp g E t):=by intro a s L H Q I h;refine to (jY I hg hm ?_ c);refine PySem.W.callWith_K (h₀:=X.base) I.ok.mod.kin v (cq (G d a s L H _ I h) λM N⟨O,P,I1,r,q⟩=>⟨I1.kIn,?_⟩) J l;exact Ca F u B hd D I1 r q
def bo(P:PE X o z)(c:zR X.K C)(hm:Ja X.K C m f)(F:aO X.prog X.w X.K X.mg X.base y k f fd n sp)(R:eK k X.A)(S:fW X.K fd n ds)(hd:a9 g ds)(T:lM y X E)(Z:PA X (e::j) t)(v:starEach (e::j) X.env=(false,eval e X.env)::starEach j X.env:=by rfl)(B:(backTo d (starEach j X.env)).any (·.1)=false:=by rfl)(ht:eval (.Call (.Attribute o m i) (e::j) [] d) X.env=(do
   let D<-eval o X.env
   standAt i.atName let(f,first)<-holding [D] (getMethod D m pl)callWith d f first (backTo d (starEach (e::j) X.env)) (backToKw d (keywordEach [] X.env))):=by rfl):PE X (.Call (.Attribute o m i) (e::j) [] d) (FZ C m sp g E z t):=by intro b s G H Q I h;refine PySem.W.methodCall_KW (pl:=pl) (cq (P b s G H _ I h) λu O⟨x,U,I1,Y,a,dx,fs,ex,ea,l,q⟩=>?_) ht;subst ex;obtain rfl:u=Value.ref a:=Y;refine oJ I1 ea c hm l ?_;refine PySem.W.callWith_K (first:=[.ref a]) (h₀:=X.base) I.ok.mod.kin hm.kp (cq (Z d b O G U _ I1 q) λL s2⟨M,H2,N,r,q2⟩=>⟨N.kIn,?_⟩) v B;exact Ca (us:=.ref a::L) (vs:=.ref a::M) F R S hd T N (.cons rfl r) q2
def kM(v:PE X o z)(c:zR X.K C)(hm:Ja X.K C m f)(F:aO X.prog X.w X.K X.mg X.base y k f fd n sp)(B:eK k X.A)(D:fW X.K fd n ds)(hd:a9 g ds)(G:lM y X E)(J:eval (.Call (.Attribute o m i) [] [] d) X.env=(do
   let r<-eval o X.env
   standAt i.atName let(f,first)<-holding [r] (getMethod r m pl)callWith d f first (backTo d (starEach [] X.env)) (backToKw d (keywordEach [] X.env))):=by rfl):PE X (.Call (.Attribute o m i) [] [] d) (FZ C m sp g E z N4):=by intro b s L H Q I h;refine PySem.W.methodCall_KW (pl:=pl) (cq (v b s L H _ I h) λu O⟨x,P,I1,M,a,dx,fs,ex,N,l,q⟩=>?_) J;subst ex;obtain rfl:u=Value.ref a:=M;refine oJ I1 N c hm l ?_;exact PySem.W.callWith_K0 (first:=[.ref a]) I1.kIn hm.kp (Ca (us:=[.ref a]) (vs:=[.ref a]) F B D hd G I1 (.cons rfl .nil) q)
structure Mk(K:R7)(C f:Addr):Prop where
 makes:PySem.W.makesIn K C=true
 init:PySem.W.findIn K (.ref C) "__init__"=some (some (.ref f))fn:PySem.W.isFn K (.ref f)=true
 kp:PySem.W.keepIn K (.ref C)=true
def GG(M:Mk X.K C f)(F:aO X.prog X.w X.K X.mg X.base y k f fd n sp)(G:eK (k+1) X.A)(J:fW X.K fd n ds)(hd:a9 g ds)(L:lM y X E)(I:aL X c q H s)(r:a9 B l)(h:∀x dx,H x=none->H dx=none->dx≠x->sp (.ref x::(B++g)) (aA (aA H dx (.own x)) x (.ins C dx [])) (λv N=>v=.non/\Q (.ref x) N) E):wpAny (model X.prog X.w) X.A (call (.ref C) l) (EP X c q Q) X.xe s:=by
 have D:=h (s.heap.objs.size+1) s.heap.objs.size (I.hok.fresh (r3 _)) (I.hok.fresh (f_ _)) (l_ (rV _));have b:=aL.made (C:=C) I;have r2:a9 (V.ref (s.heap.objs.size+1)::(B++g)) (Value.ref (s.heap.objs.size+1)::(l++ds)):=.cons rfl (r.append hd);have O:(Value.ref (s.heap.objs.size+1)::l++ds).length=n.length:=by have e:=r2.length;rw[F.len _ _ _ _ D]at e;exact e.symm
 refine Q_ (Ho (f:=f) I.kIn M.makes M.init (beq_iff_eq.mp M.fn) (t1 (F.run _ X.stack _ _ ⟨Value.ref (s.heap.objs.size+1)::l,[]⟩ (Value.ref (s.heap.objs.size+1)::(l++ds)) _ _ E (G.make C l []) (b.env0.make C l []) (J _ (Value.ref (s.heap.objs.size+1)::l) b.kIn O) r2 D) λr P a=>?_))
 cases r with|error e=>exact L c q _ _ e P b a|ok R=>cases R with|ret u=>obtain⟨v,S,T,U,W,Y⟩:=b.after a;subst W;exact⟨U,⟨V.ref (s.heap.objs.size+1),S,T,rfl,Y⟩⟩|next=>exact False.elim a|brk=>exact False.elim a|cont=>exact False.elim a
def tY(M:Mk X.K C f)(F:aO X.prog X.w X.K X.mg X.base y k f fd n sp)(u:eK (k+1) X.A)(hg:Gl X x)(hm:X.mg x=some (.ref C))(v:fW X.K fd n ds)(hd:a9 g ds)(B:lM y X E)(D:PA X (e::j) t)(c:(x==("__debug__":Str))=false:=by decide)(G:starEach (e::j) X.env=(false,eval e X.env)::starEach j X.env:=by rfl)(l:(backTo d (starEach j X.env)).any (·.1)=false:=by rfl):PE X (.Call (.Name x p) (e::j) [] d) (N5 C sp g E t):=by intro a s J H Q I h;refine to (jY I hg hm ?_ c);refine PySem.W.callWith_K (h₀:=X.base) I.ok.mod.kin M.kp (cq (D d a s J H _ I h) λL N⟨O,P,I1,r,q⟩=>⟨I1.kIn,?_⟩) G l;exact GG M F u v hd B I1 r q
end
section
variable{X:Cx}{r:BS}{k:Nat}{f C:Addr}{fd:FuncData}{n j:Sc}{sp:Sp}{E:XK}{x m:Str}{p d a c:Pos}{e o:Expr}{q:Sd}{h:List Keyword}{te i:TE}{t tk:TA}{nm:Option Str}
variable{g:List Value->List Value->List Value}{l:List V->List V->List V}
end
structure au(N P:Sc)(sc:Scope):Prop where
 kind:sc.kind=.function
 co:sc.isCoroutine=false
 gen:sc.isGenerator=false
 nd:N.Nodup
 pre:N.take P.length=P
 par:∀x∈P,sc.names.lookup x=some .local\/sc.names.lookup x=some .cell
 nofree:∀y∈sc.names,y.2≠.free
theorem xX{kindOf:Str->Option NameKind}{x:Str}:∀{binds:List (Str×Value)}{m:R_},(∀v,(x,v)∉binds)->bindL kindOf binds m x=m x
 |[],_,_=>rfl|(n,v)::r,m,h=>by
  unfold bindL;rw[xX λw a=>h w (k4 _ a)]
  split
  ·have:x≠n:=by rintro rfl;exact h v mm
   simp[this]
  ·rfl
theorem xZ{kindOf:Str->Option NameKind}{x:Str}:∀{binds:List (Str×Value)}{m:R_},(∀v,(x,v)∉binds)->bindC kindOf binds m x=m x
 |[],_,_=>rfl|(n,v)::r,m,h=>by
  unfold bindC;rw[xZ λw a=>h w (k4 _ a)]
  split
  ·rfl
  ·have:x≠n:=by rintro rfl;exact h v mm
   simp[this]
theorem xY{kindOf:Str->Option NameKind}{x:Str}{v:Value}:∀{P:Sc}{a:Sa}{i:Nat}{m:R_},P.Nodup->P[i]?=some x->a[i]?=some v->kindOf x=some .local->bindL kindOf (P.zip a) m x=some v|[],_,_,_,_,h,_,_=>by simp at h|_::_,[],_,_,_,_,h,_=>by simp at h|p::P,w::a,0,m,nd,h1,h2,b=>by simp at h1 h2;subst h1;subst h2;show bindL kindOf ((p,w)::P.zip a) m p=_;unfold bindL;rw[xX λv c=>(R4.mp nd).1 (QE c).1,kw b];simp|p::P,w::a,i+1,m,nd,h1,h2,b=>by show bindL kindOf ((p,w)::P.zip a) m x=_;unfold bindL;exact xY (i:=i) (R4.mp nd).2 (by simpa using h1) (by simpa using h2) b
theorem x8{kindOf:Str->Option NameKind}{x:Str}{v:Value}:∀{P:Sc}{a:Sa}{i:Nat}{m:R_},P.Nodup->P[i]?=some x->a[i]?=some v->kindOf x≠some .local->bindC kindOf (P.zip a) m x=some v|[],_,_,_,_,h,_,_=>by simp at h|_::_,[],_,_,_,_,h,_=>by simp at h|p::P,w::a,0,m,nd,h1,h2,b=>by simp at h1 h2;subst h1;subst h2;show bindC kindOf ((p,w)::P.zip a) m p=_;unfold bindC;rw[xZ λv c=>(R4.mp nd).1 (QE c).1,ku b];simp|p::P,w::a,i+1,m,nd,h1,h2,b=>by show bindC kindOf ((p,w)::P.zip a) m x=_;unfold bindC;exact x8 (i:=i) (R4.mp nd).2 (by simpa using h1) (by simpa using h2) b
def i8(N:Sc)(a:List V):St:=a.map some++List.replicate (N.length-a.length) none
def rE(c:BS)(P:Sb)(w:World)(K:R7)(mg:R_)(base:Heap)(N:Sc)(a:Str)(scope:Scope)(f:Addr)(cd:Value)(A:Around)(outer:List Env)(s:Shared)(H:Hp)(E:XK):Cx where
 prog:=P
 w:=w
 K:=K
 mg:=mg
 base:=base
 A:=A.deeper (envOfC a scope s.heap.objs.size f cd)
 N:=N
 s₀:=s
 H₀:=H
 env:=envOfC a scope s.heap.objs.size f cd
 outer:=outer
 stack:=envOfC a scope s.heap.objs.size f cd::outer
 ex:=[]
 calm:=true
 fn:=λ_=>true
 pn:=[]
 xe:=λe d=>wpAny (model P w) (A.deeper (envOfC a scope s.heap.objs.size f cd)) (leaving (envOfC a scope s.heap.objs.size f cd) e) (λ_ b=>c outer H s E e b) (λg b=>c outer H s E g b) d
def Bu{a:Scope}{n:Nat}{x:Str}(h:a.names.lookup x=some .cell):∃c,(cellsFrom n a.names []).lookup x=some c:=by have q:=PySem.W.cellsFrom_some a.names n [] (.inl h);exact Qh.mp q
def E8{D:BS}{P:Sb}{w:World}{K:R7}{mg:R_}{base:Heap}{N j:Sc}{d:Str}{scope:Scope}{f:Addr}{cd:Value}{A:Around}{outer:List Env}{s F:Shared}{H:Hp}{E:XK}{C:Sa}{l:List V}(S:au N j scope)(hd:A.handled=none)(g:Dt P w K mg base A outer s H)(Q:l.length=j.length)(r:a9 l C)(x:InCallC s s.heap.objs.size (bindL (envOfC d scope s.heap.objs.size f cd).kindOf (j.zip C) λ_=>none) (cellsFrom (s.heap.objs.size+1) scope.names []) (bindC (envOfC d scope s.heap.objs.size f cd).kindOf (j.zip C) λ_=>none) F):aL (rE D P w K mg base N d scope f cd A outer s H E) [] (i8 N l) H F:=by
 have J:j.length<=N.length:=by have:=tA List.length S.pre;rw[oe]at this;lia
 obtain⟨h1,tk,rfl,G⟩:=x.done;have m:∀b:Addr,b∉(rE D P w K mg base N d scope f cd A outer s H E).ex:=λb z=>absurd (show b∈([]:Sg)from z) (by simp);refine⟨⟨g.mod,S.kind,rfl,rfl,f_ _,λy z c h1 h2=>?_,λy o=>?_,λy c _ h=>?_,λ_=>hd,Around.frames_deeper g.frames,.inr ⟨rfl,rfl⟩,λb z=>absurd z (m b),g.bs,g.bsz,λb _ _=>m b,λb z=>absurd z (m b),g.funs,g.frf⟩,rfl,g.bare,Un.kept G,⟨_,x.toInCall.ns,λi y v h1 h2 h3=>?_⟩,λy c h=>⟨_,x.cell y c h⟩,g.hok.fresh (f_ _),λy c h=>?_,λp t=>absurd (show p∈([]:R9)from t) (by simp),g.hok.kept G,?_⟩
 ·exact name_of_addr x.apart (PySem.mem_of_lookup h1) (PySem.mem_of_lookup h2)
 ·have o:scope.names.lookup y=some .cell\/scope.names.lookup y=some .free:=o;rcases o with o|o
  ·exact Bu o
  ·exact absurd rfl (S.nofree _ (PySem.mem_of_lookup o))
 ·exact tl (x.above y c (PySem.mem_of_lookup h))
 ·have hi:i<l.length:=by
   unfold i8 at h2
   by_cases hi:i<l.length
   ·exact hi
   ·rw[z7 (by simpa using hi)]at h2;rw[List.getElem?_replicate]at h2
    split at h2<;>cases h2
  have L:l[i]?=some v:=by unfold i8 at h2;rw[so (by simpa using hi),j_]at h2;cases e:l[i]?with|none=>rw[e]at h2;cases h2|some a=>rw[e]at h2;cases h2;rfl
  obtain⟨u,I,M⟩:=r.get L;have t:j[i]?=some y:=by rw[<-S.pre,QY (by lia)];exact h1
  have B:j.Nodup:=by rw[<-S.pre];exact S.nd.sublist (QT _ _)
  refine⟨u,M,?_⟩;rcases S.par y (i_ t)with k|k
  ·exact .inl ⟨k,xY B t I k⟩
  ·obtain⟨c,e⟩:=Bu (n:=s.heap.objs.size+1) k;refine .inr ⟨.inl k,c,e,?_⟩;have q:=x.cell y c e;rw[x8 B t I (by show scope.names.lookup y≠_;rw[k];decide)]at q;exact q
 ·exact g.hok.fresh (tl (x.above y c (PySem.mem_of_lookup h)))
 ·unfold i8;show _=N.length;rw[kt,c_,Qr];lia
def Lv{F:BS}{P:Sb}{w:World}{K:R7}{mg:R_}{base:Heap}{k:Nat}{f:Addr}{j a:Str}{d:Arguments}{g:List Stmt}{scope:Scope}{X kV B pm c ct oc:Value}{Z od:Option Addr}{L:Array (Option Value)}{N G:Sc}{sp:Sp}(lk:K.lookup f=some ⟨oc,od,.func (PySem.W.fnOf j a d g scope X kV B pm Z c ct),L⟩)(M:PySem.W.codeIn K c a=true)(S:au N G scope)(len:∀h H Q E,sp h H Q E->h.length=G.length)(p:∀(A:Around)(outer:List Env)(s:Shared)(H:Hp)(h:List V)(Q:VK)(E:XK),eK k (A.deeper (envOfC a scope s.heap.objs.size f c))->sp h H Q E->∃t,xi (rE F P w K mg base N a scope f c A outer s H E) g t/\t {nx:=λ_ l=>Q .non l,rt:=Q} (i8 N h) H):aO P w K mg base F (k+1) f (PySem.W.fnOf j a d g scope X kV B pm Z c ct) G sp:=by
 refine⟨len,λA outer s H Y us h Q E O C hb r D=>?_⟩;have hl:=len _ _ _ _ D;have KX:K.In s.heap:=C.mod.kin.keeps λb o e=>(C.bs b o e).1;have R:s.heap.NoLimit:=C.mod.nolimit.keeps λb o e=>(C.bs b o e).1;have m:∀y∈G.zip us,scope.names.lookup y.1=some .local\/(scope.names.lookup y.1=some .cell/\((cellsFrom (s.heap.objs.size+1) scope.names []).lookup y.1).isSome=true):=λ⟨n,v⟩hy=>by
  rcases S.par n (QE hy).1 with q|q
  ·exact .inl q
  ·exact .inr ⟨q,PySem.W.cellsFrom_some _ _ _ (.inl q)⟩
 refine codeAny_call_function O.depth (KX _ _ lk) rfl S.co S.gen rfl (PySem.W.codeRec_of KX M) (hb _ _ _ _ ?_);refine wpAny_newFunctionEnv_cells S.kind m λenv he s1 x=>?_;subst he;refine⟨R.keeps x.toInCall.keep,codeAny_func ?_⟩;obtain⟨t,ht,hq⟩:=p A outer s H h Q E (O.deeper _) D;have I:aL (rE F P w K mg base N a scope f c A outer s H E) [] (i8 N h) H s1:=E8 S O.hd C hl r x;refine wpAny_mono (ht [] s1 (i8 N h) H _ I hq) (λfl T z=>?_) λe T z=>z;have fin:∀{i:St}{l:Hp}{v:V}{u:Value},aL (rE F P w K mg base N a scope f c A outer s H E) [] i l T->aU v u->Q v l->CE outer P w H s Q u T:=λ{i l v u}J U q=>⟨v,l,J.os,J.bare,J.base,J.hok,U,q⟩
 cases fl with|ret u=>obtain⟨v,i,l,J,U,q⟩:=z;exact fin J U q|next=>obtain⟨i,l,J,q⟩:=z;exact fin (v:=V.non) (u:=Value.none) J rfl q|brk=>obtain⟨_,_,_,q⟩:=z;exact False.elim q|cont=>obtain⟨_,_,_,q⟩:=z;exact False.elim q
end L2
namespace L2
open PySem PySem.Spec PyProof.Rows
section
variable{X:Cx}{x:Str}{p a:Pos}{e:Expr}{c:Sd}{t:TA}{id T:String}{r:List V->Hp->VK->Prop}
def tCB(r:List V->Hp->VK->Prop)(t:TA):TE:=λb H Q=>t b H λd f=>r d f Q
def ay(hc:cO X (.builtin id) r)(hg:Gl X x)(hm:X.mg x=none)(i:bootBuiltins x=some (.builtin id))(j:PA X (e::c) t)(hn:x≠"__name__":=by decide)(d:(x==("__debug__":Str))=false:=by decide)(l:starEach (e::c) X.env=(false,eval e X.env)::starEach c X.env:=by rfl)(f:(backTo a (starEach c X.env)).any (·.1)=false:=by rfl):PE X (.Call (.Name x p) (e::c) [] a) (tCB r t):=by intro b s g H Q I h;refine to (lK I hg hm i ?_ hn d);exact PyProof.Rows.callWith_builtin1 (cq (j a b s g H _ I h) λk m⟨n,o,I1,q,u⟩=>hc b m g o n k Q I1 q u) l f
def et(hc:cO X (.type T) r)(hg:Gl X x)(hm:X.mg x=none)(i:bootBuiltins x=some (.type T))(j:PA X (e::c) t)(hn:x≠"__name__":=by decide)(d:(x==("__debug__":Str))=false:=by decide)(l:starEach (e::c) X.env=(false,eval e X.env)::starEach c X.env:=by rfl)(f:(backTo a (starEach c X.env)).any (·.1)=false:=by rfl):PE X (.Call (.Name x p) (e::c) [] a) (tCB r t):=by intro b s g H Q I h;refine to (lK I hg hm i ?_ hn d);exact z3 (cq (j a b s g H _ I h) λk m⟨n,o,I1,q,u⟩=>hc b m g o n k Q I1 q u) l f
end
end L2
namespace HT
open PySem PyProof.Rows
section
open PySem.SeqAt
open PySem.AutoSeq1(wpAny_loadPart')
open PySem.MeetsSeq PySem.MeetsSeq2 PySem.MeetsSeq3
end
section
variable{prog:Sb}{w:World}{A:Around}{E:R8}{s:Shared}
def K2(p:IsTup s.heap t d.toArray)(q:IsTup s.heap b a.toArray)(o:d≠[])(h1:a=[]->Q (.ref t) s)(h2:a≠[]->Q (.ref s.heap.objs.size) {s with heap:=s.heap.push {cls:=.type "tuple",data:=.seq (d++a).toArray}})(l:d.length+a.length<=sizeLine):wpAny (model prog w) A (binaryOp .Add (.ref t) (.ref b)) Q E s:=by
 obtain⟨⟨cls,dd,data,sl⟩,j,hc,n,hd⟩:=id p;obtain⟨⟨m,f,data2,g⟩,c,h,n2,i⟩:=id q;simp only at hc hd h i;subst hc hd h i;have e:d.toArray++a.toArray=(d++a).toArray:=by simp
 by_cases k:a=[]
 ·exact concat_meets ⟨_,j,rfl⟩ ⟨_,c,rfl⟩ noFill_tuple_add seq_tuple_add PySem.F.slot_tuple_add PySem.F.entry_tuple_add (PySem.F.args_tuple_add_2 _ _) (tuple_addW1 t b d.toArray a.toArray n n2 dd f sl g (by simpa using o) (by simp[k])) ⟨j,c,h1 k⟩
 ·refine concat_meets ⟨_,j,rfl⟩ ⟨_,c,rfl⟩ noFill_tuple_add seq_tuple_add PySem.F.slot_tuple_add PySem.F.entry_tuple_add (PySem.F.args_tuple_add_2 _ _) (tuple_addW2 t b d.toArray a.toArray n n2 dd f sl g (by simpa using o) (by simpa using k) (by rw[lh,lh];exact l)) ⟨j,c,?_⟩
  rw[e];exact h2 k
def ie(n d:Nat):Option Int->Nat|none=>d|some v=>if v<0 then(v+(n:Int)).toNat else min v.toNat n
def GF(n d:Nat):ie n d none=d:=rfl
def Mq(n d:Nat)(hd:d<=n)(o:Option Int):ie n d o<=n:=by cases o with|none=>exact hd|some v=>
  show(if v<0 then(v+(n:Int)).toNat else min v.toNat n)<=n
  by_cases a:v<0
  ·rw[kw a];lia
  ·rw[ku a];exact Nat.min_le_right _ _
def DS(v:Int)(n d:Nat):(if v<0 then max (v+(n:Int)) 0 else min v (n:Int))=((ie n d (some v):Nat):Int):=by
 show(if v<0 then max (v+(n:Int)) 0 else min v (n:Int))=(((if v<0 then(v+(n:Int)).toNat else min v.toNat n):Nat):Int)
 by_cases a:v<0
 ·simp only[kw a];lia
 ·simp only[ku a];lia
def Do(lo hi:Option Int)(n:Nat):Builtin.Slice.sliceAdjust lo hi 1 (n:Int)=(((ie n 0 lo:Nat):Int),((ie n n hi:Nat):Int)):=by
 have h1:¬((1:Int)<0):=by lia
 unfold Builtin.Slice.sliceAdjust;simp only[h1,Q4];refine Prod.ext ?_ ?_
 ·cases lo with|none=>rfl|some v=>exact DS v n 0
 ·cases hi with|none=>rfl|some v=>exact DS v n n
def Cf(i j:Nat):Builtin.Slice.slicePlaces (i:Int) (j:Int) 1=j-i:=by
 unfold Builtin.Slice.slicePlaces;have h1:(1:Int)>0:=by lia
 simp only[h1,Rw,Int.ediv_one]
 split<;>lia
def uq(p:IsPart v o)(h:Q o s):wpAny (model prog w) A (Builtin.Slice.slicePartIndex v) Q E s:=by cases p with|none=>exact slicePart_none h|int i t=>exact slicePart_int h
def qB{sl:Addr}{c d:Value}{lo hi:Option Int}{n:Nat}{Q:Int×Int×Nat->Shared->Prop}(e:s.heap.IsSliceOf sl c d .none)(pl:IsPart c lo)(f:IsPart d hi)(h:Q (((ie n 0 lo:Nat):Int),1,ie n n hi-ie n 0 lo) s):wpAny (model prog w) A (Builtin.Slice.sliceApplied (.ref sl) (pure (n:Int))) Q E s:=by obtain⟨os,a,g,b⟩:=id e;unfold Builtin.Slice.sliceApplied Builtin.Slice.sliceFields;refine a_ (a_ (rx a b (x:=c) rfl (a_ (rx a b (x:=d) rfl (a_ (rx a b (x:=.none) rfl (e_ ?_)))))));refine a_ (slicePart_none ?_);show wpAny _ _ (if((1:Int)==0)=true then _ else _) _ _ s;rw[ku (by decide)];refine a_ (uq pl (a_ (uq f (a_ (e_ ?_)))));show wpAny _ _ (match Builtin.Slice.sliceAdjust lo hi 1 (n:Int)with|(lo,hi)=>pure (lo,(1:Int),Builtin.Slice.slicePlaces lo hi 1)) _ _ s;rw[Do lo hi n];show wpAny _ _ (pure (((ie n 0 lo:Nat):Int),(1:Int),Builtin.Slice.slicePlaces ((ie n 0 lo:Nat):Int) ((ie n n hi:Nat):Int) 1)) _ _ s;rw[Cf];exact e_ h
def GQ(a:Se)(i k:Nat):((List.range k).filterMap λ(m:Nat)=>a[((i:Int)+(m:Int)*1).toNat]?).toArray=((a.toList.drop i).take k).toArray:=by
 have e:(λ(m:Nat)=>a[((i:Int)+(m:Int)*1).toNat]?)=λm=>a[i+m]?:=by
  funext m
  have:((i:Int)+(m:Int)*1).toNat=i+m:=by lia
  rw[this]
 rw[e];have:=pick_run a i k;rw[List.filterMap_map]at this;have b:((λx=>a[x]?)∘λx=>i+x)=λm=>a[i+m]?:=rfl;rw[b]at this;rw[this]
def pM{t sl:Addr}{a:Se}{i j:Value}{lo hi:Option Int}{Q:R8}(c:IsTup s.heap t a)(l:s.heap.IsSliceOf sl i j .none)(pl:IsPart i lo)(n:IsPart j hi)(o:¬(ie a.size 0 lo=0/\ie a.size a.size hi=a.size))(h:Q (.ref s.heap.objs.size) {s with heap:=s.heap.push {cls:=.type "tuple",data:=.seq ((a.toList.drop (ie a.size 0 lo)).take (ie a.size a.size hi-ie a.size 0 lo)).toArray}})(p:a.size<=sizeLine):wpAny (model prog w) A (getItem (.ref t) (.ref sl)) Q E s:=by
 have b:sizeOk (.seq ((a.toList.drop (ie a.size 0 lo)).take (ie a.size a.size hi-ie a.size 0 lo)).toArray):=by show((a.toList.drop (ie a.size 0 lo)).take (ie a.size a.size hi-ie a.size 0 lo)).toArray.size<=sizeLine;rw[lh,oe,Qw,n_];lia
 have u:ie a.size a.size hi<=a.size:=Mq _ _ (f_ _) hi;obtain⟨os,d,e,r⟩:=id l;have f:s.TypeIs (.ref sl) "slice":=⟨os,d,e⟩;unfold getItem
 try with_reducible refine p_ ?_
 first|refine a_ (e_ ?_)|skip
 refine a_ (wpAny_sequenceKey c.typeIs (by decide) ?_);refine a_ (qx (name:=Str.ofString "__getitem__") c.typeIs RP (qr RP c.typeIs entry_tuple_getitem ?_ (args_tuple_getitem _ _)))
 show wpAny _ _ (Builtin.Tuple.tupleItemsOf (.ref t)>>=_) _ _ s;refine a_ (tupleItemsOf_ c ?_);refine a_ (RE f ?_);rw[kw (by decide)];refine a_ (qB l pl n ?_);have g:¬((((ie a.size 0 lo:Nat):Int)==0&&(1:Int)==1&&(ie a.size a.size hi-ie a.size 0 lo)==a.size)=true):=by intro q;rw[o0,o0]at q;have v:((ie a.size 0 lo:Nat):Int)=0:=eq_of_beq q.1.1;have x:ie a.size a.size hi-ie a.size 0 lo=a.size:=eq_of_beq q.2;exact o ⟨by lia,by lia⟩
 show wpAny _ _ (if(((ie a.size 0 lo:Nat):Int)==0&&(1:Int)==1&&(ie a.size a.size hi-ie a.size 0 lo)==a.size)=true then _ else _) _ _ s;rw[ku g,GQ]
 first|exact a_ (m:=Builtin.Tuple.tupleExact _) (q4 (e_ ⟨_,rfl,e_ h⟩) b)|exact a_ (m:=Builtin.Tuple.tupleExact _) (q4 (a_ (e_ (e_ ⟨_,rfl,e_ h⟩))) b)|exact a_ (a_ (m:=Builtin.Tuple.tupleExact _) (q4 (e_ (e_ ⟨_,rfl,e_ h⟩)) b))|exact a_ (a_ (m:=Builtin.Tuple.tupleExact _) (q4 (e_ ⟨_,rfl,e_ h⟩) b))
end
end HT
namespace L2
open PySem PySem.Spec PyProof.Rows
abbrev TO:=St->Hp->(Option Int->Hp->Prop)->Prop
def PO(X:Cx)(e:Option Expr)(t:TO):Prop:=∀(a:R9)(s:Shared)(b:St)(H:Hp)(Q:Option Int->Hp->Prop),aL X a b H s->t b H Q->wpAny (model X.prog X.w) X.A (evalPart e X.env) (λu d=>∃o c,aL X a b c d/\IsPart u o/\Q o c) X.xe s
def Jn:TO:=λ_ H Q=>Q none H
def N2(t:TE):TO:=λa H Q=>t a H λx b=>∃i,x=.int i/\Q (some i) b
def CW:∀{a:Sa},a9 (ns.map V.int) a->IntsAre a ns:=by induction ns with|nil=>intro a r;rw[List.map_nil]at r;cases r;exact .nil|cons n ns b=>intro a r;rw[oD]at r;cases r with|cons c r2=>obtain⟨t,e⟩:=c;subst e;exact .cons n t (b r2)
section
variable{X:Cx}{e:Expr}{te:TE}{lo hi:Option Expr}{c d:TO}{f p2:Pos}
def iS:PO X none Jn:=by intro a s b H Q I h;rw[evalPart_none];exact e_ ⟨none,H,I,.none,h⟩
def iR(h:PE X e te):PO X (some e) (N2 te):=by intro a s b H Q I g;rw[evalPart_some];refine cq (h a s b H _ I g) λu m⟨x,j,I1,k,l⟩=>?_;obtain⟨i,rfl,q⟩:=l;obtain⟨t,rfl⟩:=k;exact⟨some i,j,I1,.int i t,q⟩
def NH(X:Cx)(r:V->Option Int->Option Int->Hp->VK->Prop):Prop:=∀(a:R9)(s:Shared)(b:St)(H:Hp)(x:V)(v g h:Value)(lo hi:Option Int)(sl:Addr)(Q:VK),aL X a b H s->aU x v->s.heap.IsSliceOf sl g h .none->IsPart g lo->IsPart h hi->r x lo hi H Q->∃T id,typeLookup (.type T) "__getitem__"=pure (some (.builtin id))/\s.TypeIs v T/\wpAny (model X.prog X.w) X.A (getItem v (.ref sl)) (EP X a b Q) X.xe s
def tSl(r:V->Option Int->Option Int->Hp->VK->Prop)(te:TE)(c d:TO):TE:=λa H Q=>te a H λx b=>c a b λl g=>d a g λu h=>r x l u h Q
def gf(n:NH X r)(o:PE X e te)(p:PO X lo c)(t:PO X hi d):PE X (.Subscript e (.Slice lo hi none p2) f) (tSl r te c d):=by intro a s i H Q I h;refine Subscript_ (cq (o a s i H _ I h) λv y⟨x,z,I1,B,C⟩=>?_);refine wpAny_Slice (cq (p a y i z _ I1 C) λj D⟨l,E,F,pl,G⟩=>cq (t a D i E _ F G) λk g⟨u,m,J,K,L⟩=>?_);rw[evalPart_none];refine e_ ?_;have M:aL X a i m {g with heap:=g.heap.push {cls:=.type "slice",data:=.fields #[j,k,.none]}}:=J.kept (t':=g.toks) λb ob q=>b_ _ q;obtain⟨T,id,N,O,hg⟩:=n a {g with heap:=g.heap.push {cls:=.type "slice",data:=.fields #[j,k,.none]}} i m x v j k l u g.heap.objs.size Q M B (Heap.IsSliceOf.new ..) pl K L;show wpAny (model X.prog X.w) X.A (subscriptTail e (.Slice lo hi none p2) v (.ref g.heap.objs.size)) (EP X a i Q) X.xe {g with heap:=g.heap.push {cls:=.type "slice",data:=.fields #[j,k,.none]}};exact tail_any (ops:=[.ref g.heap.objs.size,v]) O N hg (by with_unfolding_all rfl)
def xb(a:List V)(lo hi:Option Int):List V:=(a.drop (HT.ie a.length 0 lo)).take (HT.ie a.length a.length hi-HT.ie a.length 0 lo)
def sE(a:List V)(lo hi:Option Int):(xb a lo hi).length<=a.length:=by unfold xb;rw[oe,Qw];lia
def Oj(K:R7):V->Option Int->Option Int->Hp->VK->Prop:=λx lo hi H Q=>∃a b,x=.ref a/\aW K H a b/\¬(HT.ie b.length 0 lo=0/\HT.ie b.length b.length hi=b.length)/\∀p,H p=none->Q (.ref p) (aA H p (.tup (xb b lo hi)))
def Mm:NH X (Oj X.K):=by
 intro k s y H x v z A lo hi sl Q I n p pl t h;obtain⟨a,i,rfl,u,w,q⟩:=h;cases n;obtain⟨j,r,l,m⟩:=I.tuple u;have g:j.toArray.size=i.length:=by rw[lh];exact r.length.symm
 refine⟨"tuple",_,PyProof.Rows.slot_tuple_getitem.lookup,l.typeIs,?_⟩;refine HT.pM l p pl t (by rw[g];exact w) ?_ (by rw[g];exact m);rw[g];refine⟨.ref s.heap.objs.size,_,I.laid (t':=s.toks) (o:=.tup (xb i lo hi)) (λb ob q=>b_ _ q) (f_ _) ?_,rfl,q _ (I.hok.fresh (f_ _))⟩;exact⟨n7 (sE i lo hi) m,_,(r.drop (HT.ie i.length 0 lo)).take (HT.ie i.length i.length hi-HT.ie i.length 0 lo),IsTup.new _ _⟩
def Lp(K:R7):R2:=λx y H Q=>∃a b h g,x=.ref a/\y=.ref b/\aW K H a h/\aW K H b g/\h≠[]/\h.length+g.length<=sizeLine/\(g=[]->Q (.ref a) H)/\(g≠[]->∀p,H p=none->Q (.ref p) (aA H p (.tup (h++g))))
def a9.nil_iff(r:a9 a g):g=[]↔a=[]:=by cases r with|nil=>simp|cons _ _=>simp
def Kh:lV X (binaryOp .Add) (Lp X.K):=by intro i s E H x y v u Q I l m h;obtain⟨a,b,n,p,rfl,rfl,r,t,A,j,B,C⟩:=h;cases l;cases m;obtain⟨D,g,p1,_⟩:=I.tuple r;obtain⟨k,r2,p2,_⟩:=I.tuple t;refine HT.K2 p1 p2 (λz=>A (g.nil_iff.mp z)) (λz=>⟨.ref a,H,I,rfl,B (r2.nil_iff.mp z)⟩) (λz=>?_) (by rw[<-g.length,<-r2.length];exact j);refine⟨.ref s.heap.objs.size,_,I.laid (t':=s.toks) (o:=.tup (n++p)) (λb ob q=>b_ _ q) (f_ _) ?_,rfl,C (λw=>z (r2.nil_iff.mpr w)) _ (I.hok.fresh (f_ _))⟩;exact⟨by rw[kt];exact j,_,g.append r2,IsTup.new _ _⟩
end
end L2
namespace L2
open PySem PySem.Spec PyProof.Rows
def KL(n:Nat)(i:Int):Option Nat:=if 0<=i then(if i<n then some i.toNat else none)else if-(n:Int)<=i then some (i+n).toNat else none
def we{a:Type}(c:List a)(i:Int):Option a:=(KL c.length i).bind λj=>c[j]?
def DK(h:KL n i=some j):seqIndex? i n=some j/\j<n/\-(n:Int)<=i/\i<n:=by
 unfold KL at h
 by_cases h0:0<=i
 ·rw[kw h0]at h
  by_cases h1:i<n
  ·rw[kw h1]at h;have e:i.toNat=j:=m_ h;exact⟨by rw[seqIndex_of h0 h1,e],by lia,by lia,h1⟩
  ·rw[ku h1]at h;cases h
 ·rw[ku h0]at h
  by_cases h1:-(n:Int)<=i
  ·rw[kw h1]at h;have e:(i+n).toNat=j:=m_ h;exact⟨by rw[seqIndex_neg (by lia) h1,e],by lia,h1,by lia⟩
  ·rw[ku h1]at h;cases h
def zH(h:we a i=some v):∃j,seqIndex? i a.length=some j/\a[j]?=some v/\j<a.length/\-(a.length:Int)<=i/\i<a.length:=by unfold we at h;cases e:KL a.length i with|none=>rw[e]at h;cases h|some j=>rw[e]at h;obtain⟨h1,h2,h3,h4⟩:=DK e;exact⟨j,h1,h,h2,h3,h4⟩
def zM(b:Expr):Prop:=∀o i,subscripted b false o i=operate [o,i] (getItem o i)
def NK(X:Cx)(r:R2):Prop:=∀(c a:Expr)(b:R9)(s:Shared)(d:St)(H:Hp)(x y:V)(v u:Value)(Q:VK),aL X b d H s->aU x v->aU y u->r x y H Q->subscripted a false v u=operate [v,u] (getItem v u)->wpAny (model X.prog X.w) X.A (subscriptTail c a v u) (EP X b d Q) X.xe s
def P2(X:Cx)(id:String)(r:V->List V->Hp->VK->Prop):Prop:=∀(a:R9)(s:Shared)(b:St)(H:Hp)(x:V)(c:List V)(v:Value)(d:Sa)(Q:VK),aL X a b H s->aU x v->a9 c d->r x c H Q->wpAny (model X.prog X.w) X.A (call (.builtin id) (v::d)) (EP X a b Q) X.xe s
section
variable{X:Cx}{a b:Expr}{G F:TE}{E:Pos}
def Au(d:NK X r)(e:PE X a G)(f:PE X b F)(g:zM b):PE X (.Subscript a b E) (Nx r G F):=by intro c s i H Q I h;exact Subscript_ (Ng e f I h λv u j x y k l m n q=>d a b c j i k x y v u Q l m n q (g _ _))
def Ms(K:R7):R2:=λx y H Q=>∃p c i v,x=.ref p/\y=.int i/\aX K H p c/\we c i=some v/\Q v H
def Mr(K:R7):R2:=λx y H Q=>∃p c i v,x=.ref p/\y=.int i/\aW K H p c/\we c i=some v/\Q v H
def PF:R2:=λx y H Q=>∃z i c,x=.str z/\y=.int i/\z.length<=sizeLine/\we z.cps.toList i=some c/\Q (.str ⟨#[c]⟩) H
def KJ:NK X (Ms X.K):=by
 intro d e c s l H x y v u Q I o A h m;obtain⟨p,L,i,z,rfl,rfl,B,C,q⟩:=h;cases o;obtain⟨t,rfl⟩:=A;obtain⟨f,r,pl,M⟩:=I.list B;obtain⟨j,h1,h2,h3,h4,h5⟩:=zH C;obtain⟨w,n,g⟩:=r.get h2;have D:=r.length;have hn:=qR;have fin:EP X c l Q w s:=⟨z,H,I,g,q⟩
 by_cases h0:0<=i
 ·have k:i.toNat=j:=by rw[seqIndex_of h0 h5]at h1;exact m_ h1
  exact item_listR pl.isList h0 (by lia) (by rw[k];simpa using n) fin m
 ·have k:(i+(f.toArray.size:Int)).toNat=j:=by rw[seqIndex_neg (by lia) h4]at h1;rw[lh,<-D];exact m_ h1
  exact subscriptTail_builtinR (x:=w) pl.isList.typeIs slot_list_getitem.lookup (wpAny_getItem_list_neg (Q:=λr J=>r=w/\EP X c l Q r J) pl.isList (by lia) (by rw[lh]<;>lia) (by lia) (by rw[k];simpa using n) ⟨rfl,fin⟩) m
def MU:NK X (Mr X.K):=by intro d e c s g H x y v u Q I k l h m;obtain⟨p,J,i,z,rfl,rfl,n,o,q⟩:=h;cases k;obtain⟨t,rfl⟩:=l;obtain⟨A,r,pl,L⟩:=I.tuple n;obtain⟨j,h1,h2,h3,h4,h5⟩:=zH o;obtain⟨w,B,f⟩:=r.get h2;have C:=r.length;have hn:=qR;have fin:EP X c g Q w s:=⟨z,H,I,f,q⟩;exact subscriptTail_builtinR (x:=w) pl.typeIs slot_tuple_getitem.lookup (getItem_tuple (j:=j) (Q:=λr D=>r=w/\EP X c g Q r D) pl (by lia) (by lia) (by rw[lh,<-C];exact h1) (by simpa using B) ⟨rfl,fin⟩) m
def CT:NK X PF:=by
 intro d e f s r H x y v u Q I g k h l;obtain⟨z,i,c,rfl,rfl,w,m,q⟩:=h;obtain⟨t,rfl⟩:=g;obtain⟨A,rfl⟩:=k;obtain⟨j,h1,h2,h3,h4,h5⟩:=zH m;have n:z.cps.toList.length=z.length:=by simp[Str.length]
 rw[n]at h1 h4 h5;have hn:=qR;exact tail_any (typeIs_str s z t) slot_str_getitem.lookup (getItem_str (c:=c) (by have o:decide (i< -(2^63:Int))=false:=no (by lia);have p:decide (i>=2^63)=false:=no (by lia);rw[o,p,Bool.or_false]) (by rw[h1];simpa using h2) ⟨.str ⟨#[c]⟩,H,I.tok _,⟨_,rfl⟩,q⟩) l
def Cw(c:Sa)(n j:Nat)(u:Value):Obj.mapSeq (·.setIfInBounds j u) {cls:=.type "list",data:=.seq c.toArray n}={cls:=.type "list",data:=.seq (c.set j u).toArray n}:=by simp[Obj.mapSeq]
theorem aL.lst(I:aL X d g H s)(h:H p=some (.lst f)):∃(c:Sa)(n:Nat),a9 f c/\s.heap.get? p=some {cls:=.type "list",data:=.seq c.toArray n}/\f.length<=sizeLine:=by obtain⟨z,c,n,r,e⟩:=I.hok p _ h;exact⟨c,n,r,e,z⟩
def aL.lstUpd{d:R9}{l:St}{H:Hp}{s:Shared}{p:Addr}{v i:List V}{g c:Sa}{n j:Nat}{f:Obj->Obj}(I:aL X d l H s)(h:H p=some (.lst v))(w:s.heap.get? p=some {cls:=.type "list",data:=.seq g.toArray n})(o:f {cls:=.type "list",data:=.seq g.toArray n}={cls:=.type "list",data:=.seq c.toArray j})(r:a9 i c)(y:i.length<=sizeLine)(t:Nat):aL X d l (aA H p (.lst i)) {s with heap:=s.heap.update p f,toks:=t}:=by
 have e:(s.heap.update p f).get? p=some {cls:=.type "list",data:=.seq c.toArray j}:=by rw[s_ f w (by rw[o]<;>rfl),o]
 refine I.write (x:=p) (e:=p) (by rw[h];trivial) (.inl rfl) (λb u k q=>(t2 _ _ (pv k)).trans q) ⟨_,e⟩ ?_;exact⟨y,c,j,r,e⟩
def On:V->V->V->Hp->(Hp->Prop)->Prop:=λo i v H Q=>∃p c k j,o=.ref p/\i=.int k/\H p=some (.lst c)/\KL c.length k=some j/\Q (aA H p (.lst (c.set j v)))
def GD:Lf X On:=by
 intro c s w H o i v D iv u Q I x y z h;obtain⟨p,A,k,j,rfl,rfl,l,B,q⟩:=h;cases x;obtain⟨t,rfl⟩:=y;obtain⟨d,n,r,e,C⟩:=I.lst l;obtain⟨h1,h2,h3,h4⟩:=DK B;have f:=r.length;have hn:=qR;have m:aL X c w (aA H p (.lst (A.set j v))) {s with heap:=s.heap.update p (Obj.mapSeq (·.setIfInBounds j u))}:=I.lstUpd l e (Cw d n j u) (r.set z j) (by rw[u_];exact C) s.toks
 by_cases h0:0<=k
 ·have g:k.toNat=j:=by rw[seqIndex_of h0 h4]at h1;exact m_ h1
  exact PySem.W.ki_setAt e h0 (by lia) (by rw[lh,<-f];exact h4) (by rw[g];exact⟨_,m,q⟩)
 ·have g:(k+(d.toArray.size:Int)).toNat=j:=by rw[seqIndex_neg (by lia) h3]at h1;rw[lh,<-f];exact m_ h1
  exact PySem.W.ki_setBack e (by lia) (by rw[lh,<-f];exact h3) (by lia) (by rw[g];exact⟨_,m,q⟩)
def yp(lo hi:Option Int)(n:Nat):(sliceBounds lo hi none n).1=((HT.ie n 0 lo:Nat):Int)/\(sliceBounds lo hi none n).2.1=((HT.ie n n hi:Nat):Int)/\(sliceBounds lo hi none n).2.2=1:=by
 refine⟨?_,?_,rfl⟩
 ·cases lo with|none=>simp[sliceBounds,HT.ie]|some i=>
   simp only[sliceBounds,HT.ie,Option.getD_none,show(1:Int)>0 by decide,Rw]
   by_cases h:i<0
   ·simp only[h,Rw]<;>lia
   ·simp only[h,Q4]<;>lia
 ·cases hi with|none=>simp[sliceBounds,HT.ie]|some i=>
   simp only[sliceBounds,HT.ie,Option.getD_none,show(1:Int)>0 by decide,Rw]
   by_cases h:i<0
   ·simp only[h,Rw]<;>lia
   ·simp only[h,Q4]<;>lia
def wk(c:Sa)(lo hi:Option Int):slicePick c.toArray lo hi none=((c.drop (HT.ie c.length 0 lo)).take (HT.ie c.length c.length hi-HT.ie c.length 0 lo)).toArray:=by obtain⟨h1,h2,h3⟩:=yp lo hi c.toArray.size;unfold slicePick;rw[h1,h2,h3];simp only[sliceRange_one,pick_run,lh]<;>rfl
def Ol(K:R7):V->Option Int->Option Int->Hp->VK->Prop:=λx lo hi H Q=>∃a c,x=.ref a/\aX K H a c/\∀p,H p=none->Q (.ref p) (aA H p (.lst (xb c lo hi)))
def JZ:NH X (Ol X.K):=by intro e s n H x v p t lo hi sl Q I g i pl j h;obtain⟨a,c,rfl,k,q⟩:=h;cases g;obtain⟨l,r,f,m⟩:=I.list k;have d:=r.length;refine⟨"list",_,slot_list_getitem.lookup,f.isList.typeIs,?_⟩;refine wpAny_getItem_list_slice f.isList i pl j .none (by simp) ?_ (by rw[lh]<;>lia);rw[wk,<-d];refine⟨.ref s.heap.objs.size,_,I.laid (t':=s.toks) (o:=.lst (xb c lo hi)) (λb ob q=>b_ _ q) (f_ _) ?_,rfl,q _ (I.hok.fresh (f_ _))⟩;exact⟨n7 (sE c lo hi) m,_,0,(r.drop (HT.ie c.length 0 lo)).take (HT.ie c.length c.length hi-HT.ie c.length 0 lo),g_ _ rfl⟩
def nI:V->Bool|.non=>true|.bl _=>true|.int _=>true|.str _=>true|_=>false
def Lx:V->V->Bool|.non,.non=>true|.bl a,.bl b=>a==b|.bl a,.int b=>(if a then 1 else 0)==b|.int a,.bl b=>a==(if b then 1 else 0)|.int a,.int b=>a==b|.str a,.str b=>a==b|_,_=>false
def M9(e:aU y u)(c:aU x v)(g:nI y=true)(f:nI x=true):SeqAt.EqAt A s u v (Lx y x):=by cases y with
 |non=>cases e;cases x with|non=>cases c;exact SeqAt.EqAt.same _|bl b=>cases c;exact SeqAt.EqAt.none_bool b|int b=>obtain⟨t,rfl⟩:=c;exact SeqAt.EqAt.none_int b t|str b=>obtain⟨t,rfl⟩:=c;exact SeqAt.EqAt.none_str b t|_=>exact absurd (show false=true from f) mo
 |bl a=>cases e;cases x with|non=>cases c;exact SeqAt.EqAt.bool_none a|bl b=>cases c;exact SeqAt.EqAt.bool_bool a b|int b=>obtain⟨t,rfl⟩:=c;exact SeqAt.EqAt.bool_int a b t|str b=>obtain⟨t,rfl⟩:=c;exact SeqAt.EqAt.bool_str a b t|_=>exact absurd (show false=true from f) mo
 |int a=>obtain⟨d,rfl⟩:=e;cases x with|non=>cases c;exact SeqAt.EqAt.int_none a d|bl b=>cases c;exact SeqAt.EqAt.int_bool a d b|int b=>obtain⟨t,rfl⟩:=c;exact SeqAt.EqAt.int_int a d b t|str b=>obtain⟨t,rfl⟩:=c;exact SeqAt.EqAt.int_str a d b t|_=>exact absurd (show false=true from f) mo
 |str a=>obtain⟨d,rfl⟩:=e;cases x with|non=>cases c;exact SeqAt.EqAt.str_none a d|bl b=>cases c;exact SeqAt.EqAt.str_bool a d b|int b=>obtain⟨t,rfl⟩:=c;exact SeqAt.EqAt.str_int a d b t|str b=>obtain⟨t,rfl⟩:=c;exact SeqAt.EqAt.str_str a d b t|_=>exact absurd (show false=true from f) mo
 |_=>exact absurd (show false=true from g) mo
def C7(x:V)(u:Value):Bool:=match u with|.none=>Lx .non x|.bool b=>Lx (.bl b) x|.int i _=>Lx (.int i) x|.str z _=>Lx (.str z) x|_=>false
def Ie(r:aU y u)(f:nI y=true):C7 x u=Lx y x:=by cases y with|non=>cases r;rfl|bl b=>cases r;rfl|int i=>obtain⟨t,rfl⟩:=r;rfl|str z=>obtain⟨t,rfl⟩:=r;rfl|_=>exact absurd (show false=true from f) mo
theorem pT:∀{c:List V}{d:Sa},a9 c d->c.all nI=true->d.any (C7 x)=c.any λy=>Lx y x|_,_,.nil,_=>rfl|y::c,u::d,.cons r t,f=>by rw[Qz,o0]at f;rw[D_,D_,Ie r f.1,pT t f.2]
theorem mC(g:aU x v)(h:nI x=true):∀{d:List V}{e:Sa},a9 d e->d.all nI=true->∀u∈e,SeqAt.EqAt A s u v (C7 x u)
 |_,_,.nil,_=>λu c=>by cases c|y::d,u::e,.cons r t,f=>λi c=>by
  rw[Qz,o0]at f;rcases pw.mp c with rfl|c
  ·rw[Ie r f.1];exact M9 r g f.1 h
  ·exact mC g h t f.2 i c
def nj(x:V)(c:List V):Bool:=c.any λy=>Lx y x
def Pf(K:R7)(d:Bool):R2:=λx y H Q=>∃p c,y=.ref p/\(aX K H p c\/aW K H p c)/\nI x=true/\c.all nI=true/\Q (.bl (if d then !nj x c else nj x c)) H
def EH:lV X (compareOp .In) (Pf X.K false):=by
 intro f s l H x y v u Q I g j h;obtain⟨p,m,rfl,d,i,fs,q⟩:=h;cases j;rcases d with d|d
 ·obtain⟨c,r,pl,k⟩:=I.list d;refine SeqAt.in_listAt (C7 x) pl.isList (λw e=>mC g i r fs w (by simpa using e)) ⟨.bl _,H,I,rfl,?_⟩;rw[show c.toArray.any (C7 x)=c.any (C7 x)by simp,pT r fs];exact q
 ·obtain⟨c,r,pl,k⟩:=I.tuple d;refine SeqAt.in_tupleAt (C7 x) pl (λw e=>mC g i r fs w (by simpa using e)) ⟨.bl _,H,I,rfl,?_⟩;rw[show c.toArray.any (C7 x)=c.any (C7 x)by simp,pT r fs];exact q
def yI:lV X (compareOp .NotIn) (Pf X.K true):=by
 intro f s l H x y v u Q I g j h;obtain⟨p,m,rfl,d,i,fs,q⟩:=h;cases j;rcases d with d|d
 ·obtain⟨c,r,pl,k⟩:=I.list d;refine SeqAt.notIn_listAt (C7 x) pl.isList (λw e=>mC g i r fs w (by simpa using e)) ⟨.bl _,H,I,rfl,?_⟩;rw[show c.toArray.any (C7 x)=c.any (C7 x)by simp,pT r fs];exact q
 ·obtain⟨c,r,pl,k⟩:=I.tuple d;refine SeqAt.notIn_tupleAt (C7 x) pl (λw e=>mC g i r fs w (by simpa using e)) ⟨.bl _,H,I,rfl,?_⟩;rw[show c.toArray.any (C7 x)=c.any (C7 x)by simp,pT r fs];exact q
def zB:cO X (.type "list") (λv H Q=>∃p d,v=[.ref p]/\(aX X.K H p d\/aW X.K H p d)/\∀l,H l=none->Q (.ref l) (aA H l (.lst d))):=by
 intro i s y H v A Q I r h;obtain⟨p,d,rfl,j,q⟩:=h;obtain⟨u,rfl,z⟩:=jJ r;cases z;have fin:∀(c:Sa),a9 d c->d.length<=sizeLine->∀(h':Heap)(f:Nat),(∀b x,s.heap.get? b=some x->h'.get? b=some x)->h'.get? s.heap.objs.size=some {cls:=.type "list",dict:=none,data:=.seq c.toArray f,slots:=#[]}->EP X i y Q (.ref s.heap.objs.size) {s with heap:=h'}:=λc g k h' f kp e=>⟨.ref s.heap.objs.size,_,I.laid (t':=s.toks) kp (f_ _) (show cX X.prog X.w _ h' _ (.lst d)from⟨k,c,f,g,e⟩),rfl,q _ (I.hok.fresh (f_ _))⟩
 rcases j with j|j
 ·obtain⟨c,g,pl,k⟩:=I.list j;have m:=g.length;obtain⟨o,t,hc,n,hd⟩:=pl.isList;exact call_list_seq p (.inl rfl) t hc hd (λh' f kp e=>fin c g k h' f kp e) (by simp only[lh]<;>lia)
 ·obtain⟨c,g,pl,k⟩:=I.tuple j;have m:=g.length;obtain⟨o,t,hc,n,hd⟩:=pl;exact call_list_seq p (.inr rfl) t hc hd (λh' f kp e=>fin c g k h' f kp e) (by simp only[lh]<;>lia)
def xf:cO X (.type "tuple") (λj H Q=>∃p f,j=[.ref p]/\((aX X.K H p f/\∀l,H l=none->Q (.ref l) (aA H l (.tup f)))\/(aW X.K H p f/\Q (.ref p) H))):=by
 intro c s k H j y Q I r h;obtain⟨p,f,rfl,h⟩:=h;obtain⟨u,rfl,t⟩:=jJ r;cases t;rcases h with⟨g,q⟩|⟨g,q⟩
 ·obtain⟨d,i,pl,m⟩:=I.list g;have n:=i.length;refine call_tuple_list pl.isList (λh' kp=>?_) (by simp only[lh]<;>lia);have I1:aL X c k H {s with heap:=h'}:=I.kept (t':=s.toks) kp;have x:aL X c k (aA H h'.objs.size (.tup f)) {s with heap:=h'.push {cls:=.type "tuple",data:=.seq d.toArray}}:=I1.laid (t':=s.toks) (λb o e=>b_ _ e) (f_ _) (show cX X.prog X.w _ _ _ (.tup f)from⟨m,d,i,IsTup.new _ _⟩)
  exact⟨.ref h'.objs.size,_,x,rfl,q _ (I1.hok.fresh (f_ _))⟩
 ·obtain⟨d,i,pl,m⟩:=I.tuple g;exact call_tuple_same pl ⟨.ref p,H,I,rfl,q⟩
def tyV(K:R7)(T:String)(x:V)(H:Hp):Prop:=match x with|.str _=>T="str"|.int _=>T="int"|.ref p=>(T="list"/\∃d,aX K H p d)\/(T="tuple"/\∃o,K.lookup p=some o/\o.cls=.type "tuple"/\o.dict=none)\/(T="dict"/\((∃c,H p=some (.dK c))\/∃c,H p=some (.dT c)))\/(T="set"/\∃S n,H p=some (.set S n))|_=>False
def LR(I:aL X h l H s)(r:aU x v)(ty:tyV X.K T x H):
 s.TypeIs v T/\∀a,v=.ref a->∃ob,s.heap.get? a=some ob/\ob.dict=none:=by cases x with|str z=>obtain⟨t,rfl⟩:=r;cases(show T="str"from ty);exact⟨typeIs_str s z t,λ_ e=>nomatch e⟩|int i=>obtain⟨t,rfl⟩:=r;cases(show T="int"from ty);exact⟨typeIs_int s i t,λ_ e=>nomatch e⟩|ref p=>
  cases r;rcases ty with⟨rfl,m,j⟩|⟨rfl,o,d,hc,hd⟩|⟨rfl,d⟩|⟨rfl,S,n,d⟩
  ·obtain⟨k,_,pl,_⟩:=I.list j;refine⟨pl.isList.typeIs,λa e=>?_⟩;cases e;obtain⟨o,n,e,c,hd,_⟩:=pl;exact⟨o,e,hd⟩
  ·refine⟨⟨o,I.kIn p o d,hc⟩,λa e=>?_⟩;cases e;exact⟨o,I.kIn _ o d,hd⟩
  ·have z:∃o,s.heap.get? p=some o/\o.ExactDict:=by
    rcases d with⟨f,d⟩|⟨f,d⟩
    ·obtain⟨_,_,_,_,o,_,_,e,ex,_⟩:=I.hok p _ d;exact⟨o,e,ex⟩
    ·obtain⟨_,_,_,_,o,_,_,e,ex,_⟩:=I.hok p _ d;exact⟨o,e,ex⟩
   obtain⟨o,e,ex⟩:=z;refine⟨⟨o,e,ex.1⟩,λa g=>?_⟩;cases g;exact⟨o,e,ex.2.1⟩
  ·obtain⟨o,_,_,_,e,ex,_⟩:=I.hok p _ d;refine⟨⟨o,e,ex.1⟩,λa g=>?_⟩;cases g;exact⟨o,e,ex.2.1⟩|_=>exact False.elim ty
def tBM(K:R7)(T:String)(r:V->List V->Hp->VK->Prop)(D:TE)(t:TA):TE:=λc H Q=>D c H λx d=>tyV K T x d/\t c d λe f=>r x e f Q
variable{o e:Expr}{C:Sd}{D:TE}{t:TA}{g:Str}{B d:Pos}{T id:String}{r:V->List V->Hp->VK->Prop}
def Ot(q:PlainAttrs T)(slot:Slot T g id)(n:typeOf (.builtin id)=pure (.type "method_descriptor"))(hm:P2 X id r)(u:PE X o D)(w:PA X (e::C) t)(i:attributeBase o g X.env (eval o X.env)=eval o X.env:=by rfl)(l:((backTo d (starEach (e::C) X.env)).all (λx=>!x.1)&&(backToKw d (keywordEach [] X.env)).all (λx=>x.1.isSome)&&decide ((e::C).length+([]:List Keyword).length+(if([]:List Keyword).isEmpty then 0 else 1)<30))=true:=by rfl)(j:(B.endLine==d.line)=true:=by rfl)(y:starEach (e::C) X.env=(false,eval e X.env)::starEach C X.env:=by rfl)(f:(backTo d (starEach C X.env)).any (·.1)=false:=by rfl):PE X (.Call (.Attribute o g B) (e::C) [] d) (tBM X.K T r D t):=by intro c s k H Q I h;refine wpAny_Call_method_late i l j rfl (cq (u c s k H _ I h) λv z⟨x,A,I1,m,ty,J⟩=>?_);obtain⟨h1,h2⟩:=LR I1 m ty;refine⟨T,id,q,slot,n,h1,h2,?_⟩;have p:=w d c z k A _ I1 J;rw[y]at p⊢;refine sm (by show(false||(backTo d (starEach C X.env)).any (·.1))=false;rw[f]<;>rfl) (w_ ?_);exact cq p λL M⟨N,O,P,r2,R⟩=>hm c M k O x N v L Q P m r2 R
end
end L2
namespace L2
open PySem PySem.Spec PyProof.Rows
def MtM(X:Cx)(id:String)(r:V->List V->Hp->VK->Prop):Prop:=∀(a:R9)(s:Shared)(b:St)(H:Hp)(x:V)(c:List V)(v:Value)(d:Sa)(Q:VK),aL X a b H s->aU x v->a9 c d->r x c H Q->wpAny (model X.prog X.w) X.A (call (.builtin id) (v::d)) (EP X a b Q) X.xe s
def a9.one:∀{x:V}{a:Sa},a9 [x] a->∃u,a=[u]/\aU x u|_,_,.cons r .nil=>⟨_,rfl,r⟩
theorem a9.reverse(h:a9 a c):a9 a.reverse c.reverse:=by induction h with|nil=>exact .nil|cons r t b=>rw[List.reverse_cons,List.reverse_cons];exact a9.append b (.cons r .nil)
theorem a9.rep(h:a9 a c):∀k:Nat,a9 (List.replicate k a).flatten (List.replicate k c).flatten|0=>.nil|k+1=>by rw[sD,sD,N_,N_];exact a9.append h (a9.rep h k)
theorem xM(a:Sa):∀(k:Nat)(c:Sa),List.foldl (λd f=>d++f) c.toArray (List.replicate k a.toArray)=(c++(List.replicate k a).flatten).toArray
 |0,c=>by simp|k+1,c=>by
  have e:c.toArray++a.toArray=(c++a).toArray:=by simp
  have b:(c++a)++(List.replicate k a).flatten=c++(List.replicate (k+1) a).flatten:=by rw[sD,N_,QW]
  rw[<-b,<-xM a k (c++a),<-e,sD,z0]
section
variable{X:Cx}{a:R9}{d:St}{H:Hp}{s:Shared}{l b:Addr}{g c i:List V}
def aL.lset{h its':Sa}{n:Nat}{f:Array Value->Array Value}{j:Nat}(I:aL X a d H s)(o:H l=some (.lst g))(e:s.heap.get? l=some {cls:=.type "list",data:=.seq h.toArray n})(p:f h.toArray=its'.toArray)(r:a9 c its')(t:c.length<=sizeLine):aL X a d (aA H l (.lst c)) {s with heap:=s.heap.update l (Obj.mapSeq f),toks:=j}:=by have q:=PySem.IsL.update e f;rw[p]at q;refine I.write (x:=l) (e:=l) (by rw[o];exact trivial) (.inl rfl) (λv u k m=>(t2 s.heap (Obj.mapSeq f) (pv k)).trans m) ⟨_,q⟩ ?_;exact⟨t,its',_,r,q⟩
def aL.lnew(I:aL X a d H s)(f:a9 c e)(h:c.length<=sizeLine):aL X a d (aA H s.heap.objs.size (.lst c)) {s with heap:=s.heap.push {cls:=.type "list",data:=.seq e.toArray},toks:=t'}:=I.laid (λ_ _ q=>b_ _ q) (f_ _) ⟨h,e,0,f,g_ _ rfl⟩
theorem aL.fresh(I:aL X a d H s):H s.heap.objs.size=none:=I.hok.fresh (f_ _)
def aL.lstM(I:aL X a d H s)(h:H l=some (.lst g)):g.length<=sizeLine/\∃(f:Sa)(n:Nat),a9 g f/\g.length=f.length/\s.heap.get? l=some {cls:=.type "list",data:=.seq f.toArray n}:=by obtain⟨z,f,n,r,e⟩:=I.hok l _ h;exact⟨z,f,n,r,r.length,e⟩
def AN{n:Nat}(h:n<=sizeLine):Builtin.List.listTooLong n=false:=by unfold Builtin.List.listTooLong;exact no (by lia)
end
section
variable{X:Cx}
def J3:V->List V->Hp->VK->Prop:=λx b H Q=>∃l a y,x=.ref l/\b=[y]/\H l=some (.lst a)/\a.length<sizeLine/\Q .non (aA H l (.lst (a++[y])))
def eZ:MtM X "list.append" J3:=by intro b s i H x j v k Q I f g h;obtain⟨l,m,y,rfl,rfl,c,o,q⟩:=h;cases f;obtain⟨u,rfl,ru⟩:=g.one;obtain⟨z,a,n,r,p,e⟩:=I.lstM c;refine call_meets F.slot_list_append ⟨_,e,rfl⟩ F.entry_list_append (F.args_list_append_2 _ _) (PySem.list_append l a.toArray n u (by rw[lh];lia)) ⟨e,?_⟩;refine⟨.non,_,I.lset (its':=a++[u]) c e (by simp) (r.append (.cons ru .nil)) ?_,rfl,q⟩;rw[kt,List.length_singleton];lia
def J2:V->List V->Hp->VK->Prop:=λx d H Q=>∃l b a c,x=.ref l/\d=[.ref b]/\H l=some (.lst a)/\H b=some (.lst c)/\a.length+c.length<=sizeLine/\Q .non (aA H l (.lst (a++c)))
def xC:MtM X "list.extend" J2:=by
 intro g s w H x y v A Q I k m h;obtain⟨l,b,B,C,rfl,rfl,i,o,D,q⟩:=h;cases k;obtain⟨u,rfl,ru⟩:=m.one;cases ru;obtain⟨z,c,n,r,E,e⟩:=I.lstM i;obtain⟨G,a,n2,r2,p,t⟩:=I.lstM o;have f:c.toArray.size+a.toArray.size<=sizeLine:=by rw[lh,lh];lia
 have d:¬(!c.toArray.isEmpty&&Builtin.List.listTooLong (c.toArray.size+a.toArray.size))=true:=by rw[AN f,Bool.and_false];exact mo
 refine call_meets F.slot_list_extend ⟨_,e,rfl⟩ F.entry_list_extend (F.args_list_extend_2 _ _) (AutoSeq1.list_extend_list_list_0 l c.toArray n b a.toArray n2 d (by rw[lh];lia) (by lia)) ⟨e,t,?_⟩
 refine⟨.non,_,I.lset (its':=c++a) i e (by simp) (r.append r2) ?_,rfl,q⟩;rw[kt];lia
def PH:R2:=λx y H Q=>∃l b a c,x=.ref l/\y=.ref b/\H l=some (.lst a)/\H b=some (.lst c)/\a.length+c.length<=sizeLine/\∀p,H p=none->Q (.ref p) (aA H p (.lst (a++c)))
def yJ:lV X (binaryOp .Add) PH:=by
 intro d s p H x y v u Q I f g h;obtain⟨l,b,t,w,rfl,rfl,i,j,A,q⟩:=h;cases f;cases g;obtain⟨z,c,n,r,B,e⟩:=I.lstM i;obtain⟨C,a,n2,r2,k,m⟩:=I.lstM j;refine PySem.P.add_list e m ?_ (by rw[lh,lh];lia);have o:c.toArray++a.toArray=(c++a).toArray:=by simp
 rw[o];exact⟨.ref _,_,I.lnew (t':=s.toks) (r.append r2) (by rw[kt];lia),rfl,q _ I.fresh⟩
def PD:R2:=λx y H Q=>∃l k a,x=.ref l/\y=.int k/\H l=some (.lst a)/\-(2^63)<=k/\k<2^63/\a.length*k.toNat<=sizeLine/\∀p,H p=none->Q (.ref p) (aA H p (.lst (List.replicate k.toNat a).flatten))
def Ky(a:List c)(k:Nat):(List.replicate k a).flatten.length=k*a.length:=by induction k with|zero=>simp|succ k b=>rw[sD,N_,kt,b,Nat.succ_mul,Nat.add_comm]
def GU:lV X (binaryOp .Mult) PD:=by
 intro p s J H x y v u Q I A B h;obtain⟨l,k,K,rfl,rfl,C,h1,h2,w,q⟩:=h;cases A;obtain⟨t,rfl⟩:=B;obtain⟨z,b,n,r,D,e⟩:=I.lstM C;have d:b.toArray.size*k.toNat<=sizeLine:=by rw[lh,<-D];exact w
 have f:¬b.toArray.size*k.toNat>(2^63-1)/8:=by
  have:(sizeLine:Nat)<=(2^63-1)/8:=by decide
  lia
 have g:¬(!Builtin.List.listFitsIndex k)=true:=by rw[fitsIndex_both h1 h2];exact mo
 have c:¬Builtin.List.listTooLong (b.toArray.size*k.toNat)=true:=by rw[AN d];exact mo
 have i:List.foldl (λj o=>j++o) #[] (List.replicate (if b.toArray.isEmpty=true then 0 else k.toNat) b.toArray)=(List.replicate k.toNat b).flatten.toArray:=by
  have E:∀m:Nat,List.foldl (λj o=>j++o) #[] (List.replicate m b.toArray)=(List.replicate m b).flatten.toArray:=λm=>by have:=xM b m [];rw[List.nil_append]at this;exact this
  rw[E];cases b with|nil=>simp|cons a L=>rw[ku (by simp)]
 refine wpAny_binaryOp_repeat_ref (T:="list") (U:="int") (by decide) ⟨_,e,rfl⟩ (λG=>typeIs_int G k t) noFill_list_mul F.fills_int_mul F.slot_int_rmul repeat_list F.slot_int_index.lookup (call_meets F.slot_int_rmul (typeIs_int s k t) F.entry_int_rmul (F.args_int_rmul_2 _ _) (int___rmul___int_list k t l b.toArray n) ⟨e,rfl,⟨_,e,rfl⟩,call_meets F.slot_list_mul ⟨_,e,rfl⟩ F.entry_list_mul (F.args_list_mul_2 _ _) (AutoListH.list___mul___list_int_3 l b.toArray n k t g f c) ⟨e,?_⟩⟩)
 rw[i];exact⟨.ref _,_,I.lnew (t':=s.toks) (r.rep k.toNat) (by rw[Ky,Nat.mul_comm];exact w),rfl,q _ I.fresh⟩
end
section
variable{prog:Sb}{w:World}{A:Around}{E:R8}{s:Shared}
end
section
variable{X:Cx}
end
end L2
namespace L2
open PySem PySem.Spec PyProof.Rows
section
variable{c:Type}[DecidableEq c]
def bp(a:List (c×V))(k:c):Option V:=(a.find? λb=>decide (b.1=k)).map (·.2)
def eY(a:List (c×V))(k:c)(v:V):List (c×V):=if(a.any λb=>decide (b.1=k))=true then a.map (λb=>if b.1=k then(b.1,v)else b)else a++[(k,v)]
def dD(a:List (c×V))(k:c):List (c×V):=a.filter λb=>decide (b.1≠k)
def cz{p:c×V}{r:List (c×V)}{k:c}(e:p.1=k):bp (p::r) k=some p.2:=by simp[bp,si,e]
def bK{p:c×V}{r:List (c×V)}{k:c}(e:¬p.1=k):bp (p::r) k=bp r k:=by simp[bp,si,e]
theorem lZ(k:c):∀a:List (c×V),(a.any λd=>decide (d.1=k))=(bp a k).isSome
 |[]=>rfl|p::r=>by
  rw[D_]
  by_cases e:p.1=k
  ·simp only[cz e,nn e,Bool.true_or,Option.isSome_some]
  ·rw[bK e,no e,Bool.false_or];exact lZ k r
theorem zW(k j:c)(y:V):∀a:List (c×V),bp (a.map λd=>if d.1=k then(d.1,y)else d) j=(bp a j).map λx=>if j=k then y else x
 |[]=>rfl|p::r=>by
  have b:=zW k j y r;rw[oD]
  by_cases h:p.1=k
  ·rw[kw h]
   by_cases e:p.1=j
   ·rw[cz (p:=(p.1,y)) e,cz e,Qi,kw (e.symm.trans h)]
   ·rw[bK (p:=(p.1,y)) e,bK e,b]
  ·rw[ku h]
   by_cases e:p.1=j
   ·rw[cz (p:=p) e,cz e,Qi,ku (λz=>h (e.trans z))]
   ·rw[bK (p:=p) e,bK e,b]
theorem xn(k j:c)(y:V):∀a:List (c×V),bp a k=none->bp (a++[(k,y)]) j=if j=k then some y else bp a j
 |[],_=>by
  by_cases e:k=j
  ·rw[kw e.symm];exact cz (p:=(k,y)) e
  ·rw[ku (λz=>e z.symm)];exact bK (p:=(k,y)) e|p::r,hn=>by
  rw[List.cons_append];have b:¬p.1=k:=λz=>by rw[cz z]at hn;cases hn
  rw[bK b]at hn;have d:=xn k j y r hn
  by_cases e:p.1=j
  ·rw[cz e,cz e,ku (λz=>b (e.trans z))]
  ·rw[bK e,bK e,d]
def FT(d:List (c×V))(k j:c)(y:V):bp (eY d k y) j=if j=k then some y else bp d j:=by
 unfold eY
 by_cases a:(d.any λb=>decide (b.1=k))=true
 ·rw[kw a,zW];rw[lZ]at a
  by_cases e:j=k
  ·obtain⟨x,f⟩:=Qh.mp a;rw[kw e,e,f,Qi,kw rfl]
  ·rw[ku e];cases bp d j with|none=>rfl|some x=>rw[Qi,ku e]
 ·rw[ku a];refine xn k j y d ?_;rw[lZ]at a;cases q:bp d k with|none=>rfl|some x=>rw[q]at a;exact(a rfl).elim
def mE(a:List (c×V))(k:c)(v:V):(eY a k v).length<=a.length+1:=by
 unfold eY
 split
 ·rw[c_];lia
 ·rw[kt,ol,List.length_nil];lia
def pi{a:List (c×V)}{k:c}(v:V)(h:bp a k=none):eY a k v=a++[(k,v)]:=by unfold eY;rw[lZ,h];exact ku (by decide)
def k7.isSome_eq(r:k7 o u):o.isSome=u.isSome:=by cases o with
 |none=>cases u with|none=>rfl|some _=>exact(show False from r).elim
 |some _=>cases u with|none=>exact(show False from r).elim|some _=>rfl
theorem k7.getD(r:k7 o u)(a:aU d e):aU (o.getD d) (u.getD e):=by cases o with
 |none=>cases u with|none=>exact a|some _=>exact(show False from r).elim
 |some _=>cases u with|none=>exact(show False from r).elim|some _=>exact r
def KV.val{a:List (c×V)}{g:List (c×Value)}(r:KV a g)(k:c):k7 (bp a k) (valueAt g k):=by
 unfold KV at r
 induction r with|nil=>exact True.intro|@cons p q j d h t i=>
  obtain⟨h1,h2⟩:=h
  by_cases e:p.1=k
  ·have f:q.1=k:=h1.symm.trans e;have b:valueAt (q::d) k=some q.2:=by simp[valueAt,si,f]
   rw[cz e,b];exact h2
  ·have f:¬q.1=k:=λz=>e (h1.trans z);have b:valueAt (q::d) k=valueAt d k:=by simp[valueAt,si,f]
   rw[bK e,b];exact i
theorem KV.any(r:KV a e)(k:c):(a.any λd=>decide (d.1=k))=e.any λd=>decide (d.1=k):=by
 unfold KV at r
 induction r with|nil=>rfl|cons h t b=>rw[D_,D_,b,h.1]
def KV.repl(r:KV d f)(k:c)(g:aU y u):KV (d.map λa=>if a.1=k then(a.1,y)else a) (f.map λa=>if a.1=k then(a.1,u)else a):=by
 unfold KV at r⊢
 induction r with|nil=>exact .nil|@cons p q i j h t b=>
  rw[oD,oD];refine .cons ?_ b;obtain⟨h1,h2⟩:=h
  by_cases e:p.1=k
  ·rw[kw e,kw (h1.symm.trans e)];exact⟨h1,g⟩
  ·rw[ku e,ku (λz=>e (h1.trans z))];exact⟨h1,h2⟩
def KV.put(r:KV a d)(k:c)(f:aU y u):KV (eY a k y) (stored d k u):=by
 unfold eY stored;rw[r.any k]
 by_cases e:(d.any λb=>decide (b.1=k))=true
 ·rw[kw e,kw e];exact r.repl k f
 ·rw[ku e,ku e];exact Paired.snoc r ⟨rfl,f⟩
def KV.drop(r:KV d g)(k:c):KV (dD d k) (without g k):=by
 unfold KV at r⊢;unfold dD without
 induction r with|nil=>exact .nil|@cons p q j l h t f=>
  obtain⟨h1,h2⟩:=h;rw[Q8,Q8]
  by_cases e:p.1=k
  ·have a:¬decide (p.1≠k)=true:=by simp[e]
   have b:¬decide (q.1≠k)=true:=by simp[h1.symm.trans e]
   rw[ku a,ku b];exact f
  ·have i:¬q.1=k:=λz=>e (h1.trans z);have a:decide (p.1≠k)=true:=by simp[e]
   have b:decide (q.1≠k)=true:=by simp[i]
   rw[kw a,kw b];exact .cons ⟨h1,h2⟩ f
theorem KV.length(r:KV a d):a.length=d.length:=Paired.length r
def Bo(a:List (c×V))(k:c):(dD a k).length<=a.length:=v1 _ _
end
def pK(r:aU (kV k) u):(aK P w).is k u=true:=by cases k with|inl i=>obtain⟨t,e⟩:=(show∃t,u=Value.int i t from r);subst e;exact AU P w i t|inr x=>obtain⟨t,e⟩:=(show∃t,u=Value.str x t from r);subst e;exact sw P w x t
theorem rp:∀{a:List cg}{c:Sa},a9 (a.map kV) c->ItemsAre (aK P w) a c|[],_,r=>by rw[List.map_nil]at r;cases r;exact .nil|k::a,_,r=>by rw[oD]at r;cases r with|cons h t=>exact .cons (pK h) (rp t)
abbrev KT(H:Hp):List (List cg×V)->List (List cg×Addr×Value)->Prop:=Paired λp q=>p.1=q.1/\H q.2.1=some (.tup (p.1.map kV))/\aU p.2 q.2.2
def KT.val{H:Hp}{a:List (List cg×V)}{f:List (List cg×Addr×Value)}(r:KT H a f)(k:List cg):k7 (bp a k) ((atKey f k).map (·.2)):=by induction r with|nil=>exact True.intro|@cons p q i c h t g=>
  obtain⟨h1,_,h2⟩:=h
  by_cases e:p.1=k
  ·have d:q.1=k:=h1.symm.trans e;have b:atKey (q::c) k=some q.2:=by simp[atKey,si,d]
   rw[cz e,b];exact h2
  ·have d:¬q.1=k:=λz=>e (h1.trans z);have b:atKey (q::c) k=atKey c k:=by simp[atKey,si,d]
   rw[bK e,b];exact g
def KT.repl(r:KT H a d)(k:List cg)(f:aU y u):KT H (a.map λc=>if c.1=k then(c.1,y)else c) (d.map (putAt k u)):=by induction r with|nil=>exact .nil|@cons p q g i h t b=>
  rw[oD,oD];refine .cons ?_ b;obtain⟨h1,h2,h3⟩:=h;unfold putAt
  by_cases e:p.1=k
  ·rw[kw e,kw (h1.symm.trans e)];exact⟨h1,h2,f⟩
  ·rw[ku e,ku (λz=>e (h1.trans z))];exact⟨h1,h2,h3⟩
def KT.put(r:KT H a c)(k:List cg)(f:H b=some (.tup (k.map kV)))(d:aU y u):KT H (eY a k y) (storedH c k b u):=by
 have e:(a.any λg=>decide (g.1=k))=(atKey c k).isSome:=by rw[lZ,(r.val k).isSome_eq,RG]
 unfold eY storedH;rw[e]
 by_cases q:(atKey c k).isSome=true
 ·rw[kw q,kw q];exact r.repl k d
 ·rw[ku q,ku q];exact Paired.snoc r ⟨rfl,f,d⟩
def KT.keeps(r:KT H a d)(e:∀b c,H b=some (.tup c)->f b=some (.tup c)):KT f a d:=Paired.mapP r λ_ _ z=>⟨z.1,e _ _ z.2.1,z.2.2⟩
section
variable{P:Sb}{w:World}{H:Hp}{h:Heap}{a:Addr}
def Lo(ok:lY P w H h)(e:Rd H a u):cX P w H h a u:=e.ok ok
def sC(ok:lY P w H h)(e:Rd H a (.dK c)):c.length<=sizeLine/\(a==sysModules)=false/\∃d,KV c d/\h.DictOf (aK P w) a d:=show cX P w H h a (.dK c)from Lo ok e
def LA(ok:lY P w H h)(e:H a=some (.dK c)):c.length<=sizeLine/\(a==sysModules)=false/\∃d,KV c d/\h.DictOf (aK P w) a d:=sC ok (.inl e)
def oG(ok:lY P w H h)(e:H a=some (.tup (c.map kV))):(tupleKind (aK P w)).is h c a:=by obtain⟨_,b,r,o,h1,h2,n,h3⟩:=(show cX P w H h a (.tup (c.map kV))from ok a _ e);exact⟨o,b.toArray,n,h1,h2,h3,by simpa using rp r⟩
def sB(ok:lY P w H h)(e:Rd H a (.dT c)):c.length<=sizeLine/\(a==sysModules)=false/\∃d,KT H c d/\h.DictOfH (tupleKind (aK P w)) a d:=by
 obtain⟨z,y,d,r,o,g,i,h1,h2,h3,h4,h5⟩:=(show cX P w H h a (.dT c)from Lo ok e);refine⟨z,y,d,r,o,g,i,h1,h2,h3,h4,λx b=>?_,h5⟩;have all:∀{l:List (List cg×V)}{m:List (List cg×Addr×Value)},KT H l m->∀x∈m,(tupleKind (aK P w)).is h x.1 x.2.1:=by
  intro l m q
  induction q with|nil=>intro x b;exact nomatch b|@cons p q k n f t j=>
   intro x b;rcases pw.mp b with e|b
   ·subst e;exact oG ok (by rw[<-f.1];exact f.2.1)
   ·exact j x b
 exact all r x b
def OW(ok:lY P w H h)(e:H a=some (.dT c)):c.length<=sizeLine/\(a==sysModules)=false/\∃d,KT H c d/\h.DictOfH (tupleKind (aK P w)) a d:=sB ok (.inl e)
end
def dG(H:Hp)(a:Addr)(y:V)(r:Option V):Prop:=(∃c k,Rd H a (.dK c)/\y=kV k/\r=bp c k)\/∃c k b,Rd H a (.dT c)/\y=.ref b/\H b=some (.tup (k.map kV))/\r=bp c k
def Lj(H:Hp)(a:Addr)(y v:V)(d:Hp):Prop:=(∃c k,H a=some (.dK c)/\y=kV k/\c.length<sizeLine/\d=aA H a (.dK (eY c k v)))\/∃c k b,H a=some (.dT c)/\y=.ref b/\H b=some (.tup (k.map kV))/\c.length<sizeLine/\d=aA H a (.dT (eY c k v))
theorem dG.k{H:Hp}{a:Addr}{c:List (cg×V)}{k:cg}(e:H a=some (.dK c)):dG H a (kV k) (bp c k):=.inl ⟨c,k,.inl e,rfl,rfl⟩
theorem Lj.k{H:Hp}{a:Addr}{c:List (cg×V)}{k:cg}{v:V}(e:H a=some (.dK c))(d:c.length<sizeLine):Lj H a (kV k) v (aA H a (.dK (eY c k v))):=.inl ⟨c,k,e,rfl,d,rfl⟩
section
variable{X:Cx}{d:R9}{f:St}{H:Hp}{s:Shared}{a:Addr}{y v:V}{u r:Value}{o:Option V}{A:Around}{E:R8}
def aL.big(I:aL X d f H s):sysModules<s.heap.objs.size:=by have h:mainGlobals<s.heap.objs.size:=(I.mod.glob.keeps I.bk).lt;exact C_ (by decide) h
def Fn(C:A.units+1<cLine)(I:aL X d f H s)(g:dG H a y (some v))(x:aU y u)(h:∀j B,aL X d f H B->aU v j->Q j B):wpAny (model X.prog X.w) A (getItem (.ref a) u) Q E s:=by
 rcases g with⟨m,k,e,n,l⟩|⟨m,k,b,e,n,D,l⟩
 ·subst n;obtain⟨z,hd,F,c,dd⟩:=sC I.hok e;obtain⟨j,q,i⟩:=k7.some_of (v:=v) (o:=valueAt F k) (by rw[l];exact c.val k);exact wpAny_getItem_of (pK x) dd.mapOf q (h j _ (I.tok _) i)
 ·subst n;cases(show u=Value.ref b from x);obtain⟨z,hd,G,c,dd⟩:=sB I.hok e;obtain⟨j,q,i⟩:=k7.some_of (v:=v) (o:=(atKey G k).map (·.2)) (by rw[l];exact c.val k);obtain⟨p,J,t⟩:=Option.map_eq_some_iff.mp q;refine wpAny_getItem_heap (E_ C) (oG I.hok D) dd J ?_;rw[t];exact h j _ (I.tok _) i
def PU(t:A.units+1<cLine)(I:aL X d f H s)(g:dG H a y o)(n:aU y u)(h:∀p,aL X d f H p->Q (.bool o.isSome) p):wpAny (model X.prog X.w) A (compareOp .In u (.ref a)) Q E s:=by
 rcases g with⟨i,k,e,j,l⟩|⟨i,k,b,e,j,m,l⟩
 ·subst j;obtain⟨z,hd,x,c,dd⟩:=sC I.hok e;refine wpAny_in_of (pK n) hd dd.mapOf ?_;rw[<-(c.val k).isSome_eq,<-l];exact h _ (I.tok _)
 ·subst j;cases(show u=Value.ref b from n);obtain⟨z,hd,B,c,dd⟩:=sB I.hok e;refine wpAny_in_heap (E_ t) (oG I.hok m) hd dd ?_;have q:=(c.val k).isSome_eq;rw[RG]at q;rw[<-q,<-l];exact h _ (I.tok _)
def DR(t:A.units+1<cLine)(I:aL X d f H s)(g:dG H a y o)(n:aU y u)(h:∀p,aL X d f H p->Q (.bool (!o.isSome)) p):wpAny (model X.prog X.w) A (compareOp .NotIn u (.ref a)) Q E s:=by
 rcases g with⟨i,k,e,j,l⟩|⟨i,k,b,e,j,m,l⟩
 ·subst j;obtain⟨z,hd,x,c,dd⟩:=sC I.hok e;refine wpAny_notIn_of (pK n) hd dd.mapOf ?_;rw[<-(c.val k).isSome_eq,<-l];exact h _ (I.tok _)
 ·subst j;cases(show u=Value.ref b from n);obtain⟨z,hd,B,c,dd⟩:=sB I.hok e;refine wpAny_notIn_heap (E_ t) (oG I.hok m) hd dd ?_;have q:=(c.val k).isSome_eq;rw[RG]at q;rw[<-q,<-l];exact h _ (I.tok _)
def t6(I:aL X d f H s)(c:O2 (H a))(g:Heap.SameBut a s.heap h')(h:∃q,h'.get? a=some q)(new:cX X.prog X.w (aA H a ob) h' a ob):aL X d f (aA H a ob) {s with heap:=h',toks:=j}:=I.write (x:=a) (e:=a) c (.inl rfl) (λb q i z=>(g.2 b i).trans z) h new
def Iq(z:c.length<=sizeLine)(hd:(a==sysModules)=false)(e:KV c g)(dd:h'.DictOf (aK P w) a g):cX P w h h' a (.dK c):=⟨z,hd,g,e,dd⟩
def Fm(M:A.units+1<cLine)(I:aL X d f H s)(g:Lj H a y v N)(F:aU y u)(G:aU v r)(h:∀J,aL X d f N J->Q () J):wpAny (model X.prog X.w) A (setItem (.ref a) u r) Q E s:=by
 rcases g with⟨i,k,e,p,l,t⟩|⟨i,k,b,e,p,K,l,t⟩
 ·subst p t;obtain⟨z,hd,O,j,dd⟩:=LA I.hok e;have x:O.length<=sizeLine:=by rw[<-j.length];exact z
  have B:(eY i k v).length<=sizeLine:=by have:=mE i k v;lia
  refine wpAny_setItem_pairs (hsz:=x) (pK F) dd λh' m D=>h _ ?_;have P:∃q,h'.get? a=some q:=let⟨q,_,_,n,_⟩:=m;⟨q,n⟩;exact t6 I (by rw[e];exact True.intro) D P (Iq B hd (j.put k G) m)
 ·subst p t;cases(show u=Value.ref b from F);obtain⟨z,hd,R,j,dd⟩:=OW I.hok e;have x:R.length<=sizeLine:=by rw[<-Paired.length j];exact z
  have B:(eY i k v).length<=sizeLine:=by have:=mE i k v;lia
  refine wpAny_setItem_heap (hsz:=x) (E_ M) (oG I.hok K) dd λh' m D=>h _ ?_;obtain⟨q,S,T,n,h2,h3,h4,_,h5⟩:=m;refine t6 I (by rw[e];exact True.intro) D ⟨q,n⟩ ⟨B,hd,_,(j.put k K G).keeps λc U L=>?_,q,S,T,n,h2,h3,h4,h5⟩;rw[ak (Ov L e (nofun))];exact L
end
section
variable{X:Cx}{d:R9}{f:St}{H:Hp}{s:Shared}{a:Addr}{c:List (cg×V)}{k:cg}{u:Value}{A:Around}{E:R8}
def OX(I:aL X d f H s)(e:H a=some (.dK c))(n:aU (kV k) u)(l:bp c k=some v)(hm:g=[]\/∃x,g=[x])(h:∀j r,aL X d f (aA H a (.dK (dD c k))) r->aU v j->Q j r):wpAny (model X.prog X.w) A (call (.builtin "dict.pop") (.ref a::u::g)) Q E s:=by
 obtain⟨z,hd,y,b,dd⟩:=LA I.hok e;obtain⟨j,B,p⟩:=k7.some_of (v:=v) (o:=valueAt y k) (by rw[<-l];exact b.val k);have C:(keyPart u).isSome=true:=by cases k with|inl i=>obtain⟨t,q⟩:=(show∃t,u=Value.int i t from n);subst q;rfl|inr x=>obtain⟨t,q⟩:=(show∃t,u=Value.str x t from n);subst q;rfl
 have D:argsOk "dict.pop" ⟨.ref a::u::g,[]⟩:=by
  rcases hm with q|⟨x,q⟩
  ·subst q;exact PySem.F.args_dict_pop_2 _ _
  ·subst q;exact PySem.F.args_dict_pop_3 _ _ _
 refine F_ PySem.F.slot_dict_pop dd.typeIs PySem.F.entry_dict_pop D (meets_dict_pop_there (aK X.prog X.w) a (pK n) g hm C) ⟨y,j,dd,by rw[<-b.length];exact z,B,λh' m G=>h j _ ?_ p⟩
 have J:∃q,h'.get? a=some q:=let⟨q,_,_,K,_⟩:=m;⟨q,K⟩;exact t6 I (by rw[e];exact True.intro) G J (Iq (n7 (Bo c k) z) hd (b.drop k) m)
end
def O1(i:Expr):Prop:=∀a iv,subscripted i false a iv=operate [a,iv] (getItem a iv)
def Jq{prog:Sb}{w:World}{A:Around}{E:R8}{s:Shared}{env:Env}{c a:Expr}{j:Pos}{T id:String}{Q:R8}(l:typeLookup (.type T) "__getitem__"=pure (some (.builtin id)))(n:O1 a)(h:wpAny (model prog w) A (eval c env) (λo s₁=>wpAny (model prog w) A (eval a env) (λi d=>d.TypeIs o T/\wpAny (model prog w) A (getItem o i) Q E d) E s₁) E s):wpAny (model prog w) A (eval (.Subscript c a j) env) Q E s:=by
 refine Subscript_ (wpAny_mono h (λo s₁ f=>wpAny_mono f (λi d b=>?_) λ_ _ x=>x) λ_ _ x=>x);obtain⟨k,b⟩:=b;unfold subscriptTail;refine a_ ?_;rw[getitemInPython_of_ne k.not_modules];refine a_ (Rc k l ?_);have fin:wpAny (model prog w) A (subscripted a false o i) (λr e=>wpAny (model prog w) A (letTemporaryGo c o r>>=λ_=>pure r) Q E e) E d:=by rw[n o i];exact wpAny_operating (wpAny_mono b (λr e g=>a_ (wpAny_letTemporaryGo (e_ g))) λ_ _ x=>x)
 first|exact e_ (a_ fin)|exact a_ (e_ (a_ fin))|exact a_ fin
def Bp(I:aL X d f H s)(g:dG H a y o):s.TypeIs (.ref a) "dict":=by
 rcases g with⟨c,k,e,_,_⟩|⟨c,k,b,e,_,_,_⟩
 ·obtain⟨_,_,h,_,dd⟩:=sC I.hok e;exact dd.typeIs
 ·obtain⟨_,_,i,_,dd⟩:=sB I.hok e;exact dd.typeIs
def N8(d ty:TE):TE:=λb H Q=>d b H λx e=>ty b e λy c=>∃a v,x=.ref a/\dG c a y (some v)/\Q v c
def Pw(ty d:TE):TE:=λb H Q=>ty b H λy e=>d b e λx c=>∃a o,x=.ref a/\dG c a y o/\Q (.bl o.isSome) c
def Jp(ty d:TE):TE:=λb H Q=>ty b H λy e=>d b e λx c=>∃a o,x=.ref a/\dG c a y o/\Q (.bl (!o.isSome)) c
section
variable{X:Cx}{o i e d:Expr}{f j l:Pos}{c ty n:TE}
def dL(q:X.A.units+1<cLine)(r:PE X o c)(hi:PE X i ty)(t:O1 i):PE X (.Subscript o i f) (N8 c ty):=by intro b s m H Q I h;refine Jq PySem.F.slot_dict_getitem.lookup t (cq (r b s m H _ I h) λu w⟨x,z,I1,B,C⟩=>cq (hi b w m z _ I1 C) λiv K⟨y,D,p,E,a,v,ex,g,G⟩=>?_);subst ex;obtain rfl:u=Value.ref a:=B;exact⟨Bp p g,Fn q p g E λL M J k=>⟨v,D,J,k,G⟩⟩
def Ch(p:X.A.units+1<cLine)(hi:PE X i ty)(q:PE X o c):PC X .In i o (Pw ty c):=by intro b s k H Q I h;refine cq (hi b s k H _ I h) λiv m⟨y,r,I1,t,v⟩=>cq (q b m k r _ I1 v) λu F⟨x,w,z,B,a,C,ex,g,D⟩=>?_;subst ex;obtain rfl:u=Value.ref a:=B;exact PU p z g t λG E=>⟨.bl C.isSome,w,E,rfl,D⟩
def qM(p:X.A.units+1<cLine)(hi:PE X i ty)(q:PE X o c):PC X .NotIn i o (Jp ty c):=by intro b s k H Q I h;refine cq (hi b s k H _ I h) λiv m⟨y,r,I1,t,v⟩=>cq (q b m k r _ I1 v) λu F⟨x,w,z,B,a,C,ex,g,D⟩=>?_;subst ex;obtain rfl:u=Value.ref a:=B;exact DR p z g t λG E=>⟨.bl (!C.isSome),w,E,rfl,D⟩
end
def Ir(h:Heap)(a:sysModules<h.objs.size):cX P w H (h.push {cls:=.type "dict",data:=.dict #[]}) h.objs.size (.dK []):=⟨n0 _,Es.mpr (pv (l_ a)),[],.nil,Heap.DictOf.new h⟩
def L0:TE:=λ_ H Q=>∀p,H p=none->Q (.ref p) (aA H p (.dK []))
section
variable{X:Cx}{c:Pos}
def kN:PE X (.Dict [] [] c) L0:=λb s d H Q I h=>wpAny_Dict_empty ⟨.ref s.heap.objs.size,_,I.laid (a:=s.heap.objs.size) (o:=.dK []) (t':=s.toks) (λ_ _ q=>b_ _ q) (f_ _) (Ir s.heap I.big),rfl,h _ (I.hok.fresh (f_ _))⟩
end
structure M1(X:Cx)(o:Expr)(m:Str)(apos:Pos)(e:Expr)(cpos:Pos):Prop where
 base:attributeBase o m X.env (eval o X.env)=eval o X.env
 few:((backTo cpos (starEach [e] X.env)).all (λx=>!x.1)&&(backToKw cpos (keywordEach [] X.env)).all (λx=>x.1.isSome)&&decide (([e]:Sd).length+([]:List Keyword).length+(if([]:List Keyword).isEmpty then 0 else 1)<30))=true
 line:(apos.endLine==cpos.line)=true
 trees:backTo cpos (starEach [e] X.env)=[(false,eval e X.env)]
structure M2(X:Cx)(o:Expr)(m:Str)(apos:Pos)(e f:Expr)(cpos:Pos):Prop where
 base:attributeBase o m X.env (eval o X.env)=eval o X.env
 few:((backTo cpos (starEach [e,f] X.env)).all (λx=>!x.1)&&(backToKw cpos (keywordEach [] X.env)).all (λx=>x.1.isSome)&&decide (([e,f]:Sd).length+([]:List Keyword).length+(if([]:List Keyword).isEmpty then 0 else 1)<30))=true
 line:(apos.endLine==cpos.line)=true
 trees:backTo cpos (starEach [e,f] X.env)=[(false,eval e X.env),(false,eval f X.env)]
def Pm(H:Hp)(a:Addr):Prop:=(∃b,Rd H a (.dK b))\/∃b,Rd H a (.dT b)
def CV(I:aL X f g H s)(d:Pm H a):s.TypeIs (.ref a) "dict"/\(∀b,Value.ref a=.ref b->∃ob,s.heap.get? b=some ob/\ob.dict=none)/\(a==sysModules)=false:=by
 rcases d with⟨c,e⟩|⟨c,e⟩
 ·obtain⟨_,hd,h,_,dd⟩:=sC I.hok e;refine⟨dd.typeIs,λb q=>?_,hd⟩;cases q;obtain⟨ob,_,_,h1,h2,_⟩:=dd;exact⟨ob,h1,h2.2.1⟩
 ·obtain⟨_,hd,i,_,dd⟩:=sB I.hok e;refine⟨dd.typeIs,λb q=>?_,hd⟩;cases q;obtain⟨ob,_,_,h1,h2,_⟩:=dd;exact⟨ob,h1,h2.2.1⟩
section
variable{X:Cx}{c:R9}{f:St}{H:Hp}{s:Shared}{a:Addr}{y d:V}{u r:Value}{o:Option V}{A:Around}{E:R8}
def Nf(t:A.units+1<cLine)(I:aL X c f H s)(g:dG H a y o)(n:aU y u)(h:∀p q,aL X c f H q->aU (o.getD .non) p->Q p q):wpAny (model X.prog X.w) A (call (.builtin "dict.get") [.ref a,u]) Q E s:=by
 rcases g with⟨j,k,e,m,l⟩|⟨j,k,b,e,m,v,l⟩
 ·subst m;obtain⟨z,hd,B,i,dd⟩:=sC I.hok e;refine F_ PySem.F.slot_dict_get dd.typeIs PySem.F.entry_dict_get (PySem.F.args_dict_get_2 _ _) (meets_dict_get (aK X.prog X.w) a (pK n) hd) ⟨_,dd.mapOf,h _ _ (I.tok _) ?_⟩;rw[l];exact(i.val k).getD rfl
 ·subst m;cases(show u=Value.ref b from n);obtain⟨z,hd,x,i,dd⟩:=sB I.hok e;refine F_ PySem.F.slot_dict_get dd.typeIs PySem.F.entry_dict_get (PySem.F.args_dict_get_2 _ _) (meetsH_dict_get (tupleKind (aK X.prog X.w)) a b hd) ⟨E_ t,k,x,oG I.hok v,dd,h _ _ (I.tok _) ?_⟩;rw[l];exact(i.val k).getD rfl
def Nd(v:A.units+1<cLine)(I:aL X c f H s)(g:dG H a y o)(n:aU y u)(p:aU d r)(h:∀q t,aL X c f H t->aU (o.getD d) q->Q q t):wpAny (model X.prog X.w) A (call (.builtin "dict.get") [.ref a,u,r]) Q E s:=by
 rcases g with⟨j,k,e,m,l⟩|⟨j,k,b,e,m,x,l⟩
 ·subst m;obtain⟨z,hd,C,i,dd⟩:=sC I.hok e;refine F_ PySem.F.slot_dict_get dd.typeIs PySem.F.entry_dict_get (PySem.F.args_dict_get_3 _ _ _) (meets_dict_get_default (aK X.prog X.w) a (pK n) hd r) ⟨_,dd.mapOf,h _ _ (I.tok _) ?_⟩;rw[l];exact(i.val k).getD p
 ·subst m;cases(show u=Value.ref b from n);obtain⟨z,hd,B,i,dd⟩:=sB I.hok e;refine F_ PySem.F.slot_dict_get dd.typeIs PySem.F.entry_dict_get (PySem.F.args_dict_get_3 _ _ _) (meetsH_dict_get_default (tupleKind (aK X.prog X.w)) a b hd r) ⟨E_ v,k,B,oG I.hok x,dd,h _ _ (I.tok _) ?_⟩;rw[l];exact(i.val k).getD p
end
def L3(e ty:TE):TE:=λb H Q=>e b H λx c=>∃a,x=.ref a/\Pm c a/\ty b c λy d=>∃o,dG d a y o/\Q (o.getD .non) d
def L1(e ty f:TE):TE:=λb H Q=>e b H λx c=>∃a,x=.ref a/\Pm c a/\ty b c λy g=>f b g λz d=>∃o,dG d a y o/\Q (o.getD z) d
def LY(f ty:TE):TE:=λc H Q=>f c H λx d=>∃a,x=.ref a/\Pm d a/\ty c d λy e=>∃b k v,e a=some (.dK b)/\y=kV k/\bp b k=some v/\Q v (aA e a (.dK (dD b k)))
section
variable{X:Cx}{o e f:Expr}{i c:Pos}{j ty n:TE}
def Ay(p:X.A.units+1<cLine)(q:PE X o j)(r:PE X e ty)(m:M1 X o "get" i e c):PE X (.Call (.Attribute o "get" i) [e] [] c) (L3 j ty):=by intro b s l H Q I h;refine Qn m.base m.few m.line PySem.F.plainAttrs_dict PySem.F.slot_dict_get PySem.F.type_dict_get (cq (q b s l H _ I h) λu t⟨x,v,I1,w,a,ex,d,z⟩=>?_);subst ex;obtain rfl:u=Value.ref a:=w;obtain⟨B,C,_⟩:=CV I1 d;refine⟨B,C,?_⟩;rw[m.trees];refine sm rfl (w_ (rk (cq (r b t l v _ I1 z) λiv L⟨y,D,E,G,M,g,J⟩=>t_ ?_)));exact Nf p E g G λN O K k=>⟨_,D,K,k,J⟩
def Ax(p:X.A.units+1<cLine)(q:PE X o j)(r:PE X e ty)(t:PE X f n)(m:M2 X o "get" i e f c):PE X (.Call (.Attribute o "get" i) [e,f] [] c) (L1 j ty n):=by
 intro b s k H Q I h;refine Qn m.base m.few m.line PySem.F.plainAttrs_dict PySem.F.slot_dict_get PySem.F.type_dict_get (cq (q b s k H _ I h) λu v⟨x,w,I1,B,a,ex,d,C⟩=>?_);subst ex;obtain rfl:u=Value.ref a:=B;obtain⟨D,E,_⟩:=CV I1 d;refine⟨D,E,?_⟩;rw[m.trees];refine sm rfl (w_ (rk (cq (r b v k w _ I1 C) λiv G⟨y,J,K,L,M⟩=>rk (cq (t b G k J _ K M) λT U⟨z,N,O,P,V,g,R⟩=>t_ ?_))))
 exact Nd p O g L P λW Y S l=>⟨_,N,S,l,R⟩
def Av(q:PE X o j)(r:PE X e ty)(m:M1 X o "pop" i e c):PE X (.Call (.Attribute o "pop" i) [e] [] c) (LY j ty):=by intro b s p H Q I h;refine Qn m.base m.few m.line PySem.F.plainAttrs_dict PySem.F.slot_dict_pop PySem.F.type_dict_pop (cq (q b s p H _ I h) λu t⟨x,w,I1,z,a,ex,d,A⟩=>?_);subst ex;obtain rfl:u=Value.ref a:=z;obtain⟨B,C,_⟩:=CV I1 d;refine⟨B,C,?_⟩;rw[m.trees];refine sm rfl (w_ (rk (cq (r b t p w _ I1 A) λiv N⟨y,O,D,E,G,k,v,J,K,l,L⟩=>t_ ?_)));subst K;exact OX D J E l (.inl rfl) λP R M g=>⟨v,_,M,g,L⟩
end
section
variable{X:Cx}{c:R9}{e:St}{H:Hp}{s:Shared}{a:Addr}{d:List (cg×V)}{A:Around}{E:R8}
end
section
variable{X:Cx}{c:R9}{d:St}{H:Hp}{s:Shared}{a:Addr}{y:V}{u:Value}{A:Around}{E:R8}
end
end L2
namespace Att
open PySem PySem.W PySem.Calls PyProof.Rows
def tO:∀(ns:Sh)(c:Sa),WellAll P h c (ns.map WData.int)->IntsAre c ns:=by
 intro ns
 induction ns with|nil=>intro c w;rw[List.map_nil]at w;cases w;exact .nil|cons n ns d=>intro c w;rw[oD]at w;cases w with|cons a b=>cases a;exact .cons _ _ (d _ b)
def Ey{l:OpenLaw}{n:Nat}(hn:l.most=some n){P:Params}{h:Heap}{args:List WData}{c:Sa}(e:l.row.toRowW.claim.pre args=true)(g:WellAll P h c args):∃a j ns,c=[Value.ref a]/\args=[WData.list (ns.map WData.int)]/\h.get? a=some {cls:=.type "list",data:=.seq j.toArray}/\IntsAre j ns/\ns.length<=n:=by
 have i:WShape.hasAll [] args [.list .int]=true:=(pre_splitW e).1;have hc:l.pre.holds [] {args:=args}=true:=(pre_splitW e).2;obtain⟨d,r,rfl,h1,h2⟩:=hasAllW_cons i;obtain rfl:=hasAllW_nil h2;obtain⟨s,rfl,h3⟩:=hasW_list h1;obtain⟨ns,rfl⟩:=items_int h3;have b:ns.length<=n:=by
  unfold OpenLaw.pre at hc;have h4:(WTm.not (.lt (.lit (.int (n:Int))) (.len (.arg 0)))).holds [] {args:=[.list (ns.map .int)]}=true:=by have h4:=(holds_andW hc).1;rw[hn]at h4;exact h4
  have h5:=condW_of h4 (w_not (w_lt w_lit (w_len_list (w_arg rfl))));rw[c_]at h5;refine Qt λq=>?_;have k:(n:Int)<((ns.length:Nat):Int):=by lia
  first|(rw[nn k]at h5;exact absurd h5 (by decide))|(simp at h5;lia)
 cases g with|cons m o=>cases o;cases m with|list p f=>exact⟨_,_,ns,rfl,rfl,p,tO ns _ f,b⟩
def ED(l:OpenLaw)(args:List WData):l.row.toRowW.claim.post args (.bool true) args=true:=postW_of (r:=l.row.toRowW) (X:=(true==true)) (show WShape.has [] (.bool true) .bool=true by first|rfl|decide|simp[WShape.has,WShape.arms,WShape.armsAll]) (show(WTm.eq .res (.lit (.bool true))).value [] {args:=args,res:=some (.bool true),after:=args}=some (.bool (true==true))from w_eq_bool (w_res rfl) w_lit) rfl
def BD{l:OpenLaw}{n:Nat}{q:Sb}{c:Sc}{x:(Str->Option Value)->Heap->Prop}{y:World->Heap->Prop}{d:DefRec}(hn:l.most=some n)(s:d.params.defaults=[])(call:∀(w:World)(s₀ s₁:Shared)(mg t:R_)(h:Addr)(o:Obj)(pm cd e:Value)(a:Addr)(g:Sa)(ns:Sh),Ground q c [] x w s₀ mg t s₁.heap->y w s₁.heap->s₁.heap.get? h=some o->o.data=.func (docDef d.name d.params d.body d.scope pm cd e)->s₁.heap.CodeRec cd d.name->mg d.name=some (.ref h)->s₁.heap.get? a=some {cls:=.type "list",data:=.seq g.toArray}->IntsAre g ns->ns.length<=n->s₁.gens=#[]->codeAny (model l.prog w) callerA (.call (.ref h) ⟨[.ref a],[]⟩) (λr p=>r=.ok (.ret (.bool true))/\OldK s₁.heap p.heap/\p.os=s₁.os/\AllBare p.gens) s₁):WalkO q c x y l.row.toRowW d [] (λf g=>PySem.call f g):=by intro w s₀ s₁ mg t G Y h o pm cd e D kV E hd m z u hg A B J i C F v H;obtain rfl:D=.none:=Dflts.none z s;obtain rfl:kV=.none:=Dflts.noKw z;obtain⟨a,g,ns,rfl,rfl,j,b,k⟩:=Ey hn i v;refine enter_call (t1 (call w s₀ s₁ mg t h o pm cd e a g ns G Y E (fd_plain hd) m u j b k hg) λr p I=>?_);obtain⟨rfl,h2,h3,h4⟩:=I;exact⟨.inl ⟨.bool true,.bool true,[],rfl,λ_=>rfl,.bool true,ED l _,λ_=>⟨List.Pairwise.nil,λ_ hm=>(nomatch hm)⟩⟩,h2,h3,h4⟩
section
variable{prog:Sb}{w:World}{A:Around}{E:R8}{s:Shared}{K:Frag}
end
end Att
namespace L2
open PySem PySem.Spec PyProof.Rows
theorem xl:∀{a:Sa}{ns:Sh},IntsAre a ns->a9 (ns.map V.int) a|_,_,.nil=>.nil|_,_,.cons n t h=>.cons ⟨t,rfl⟩ (xl h)
def zO(H:Hp):Prop:=∀b,H b=none\/∃o a,H b=some (.frz o (.lst a))
def Hy{P:Sb}{w:World}{K:R7}{mg J:R_}{T:BS}{k:Nat}{L a:Addr}{fd:FuncData}{x:Str}{sp:Sp}{s₁:Shared}{l:Sa}{ns:Sh}(X:K.In s₁.heap)(t:s₁.heap.Ns mainGlobals mg)(f:s₁.heap.Ns builtinsNs J)(M:∀x:Str,x≠"__name__"->J x=bootBuiltins x)(y:s₁.heap.NoLimit)(hg:s₁.gens=#[])(I:s₁.heap.get? a=some {cls:=.type "list",data:=.seq l.toArray})(hi:IntsAre l ns)(Z:ns.length<=sizeLine)(hr:eK k callerA)(F:∀base:Heap,K.In base->base.Ns mainGlobals mg->aO P w K mg base T k L fd [x] sp)(p:∀(s:Shared)(u:Value),BindsTo s fd ⟨[u],[]⟩ [(x,u)])(N:∀H:Hp,zO H->aX K H a (ns.map V.int)->sp [.ref a] H (λv _=>v=.bl true) λ_ _ _=>False)(Q:∀H e g,T [] H s₁ (λ_ _ _=>False) e g->False):codeAny (model P w) callerA (.call (.ref L) ⟨[.ref a],[]⟩) (λr g=>r=.ok (.ret (.bool true))/\OldK s₁.heap g.heap/\g.os=s₁.os/\AllBare g.gens) s₁:=by
 have U:=xl hi;have A:=hi.length;have j:∀H:Hp,zO H->aX K H a (ns.map V.int)->lY P w H s₁.heap->(∀b,H b≠none->b=a)->(H a≠none->K.lookup a=none)->codeAny (model P w) callerA (.call (.ref L) ⟨[.ref a],[]⟩) (λr g=>r=.ok (.ret (.bool true))/\OldK s₁.heap g.heap/\g.os=s₁.os/\AllBare g.gens) s₁:=by
  intro H Y hS hok hA hK;have c:∀{b:Addr}{o:Obj},s₁.heap.get? b=some o->H b=none->(zh s₁.heap H).get? b=some o:=λe n=>HU e n;have O:∀{b:Addr}{o:Obj}{B:Array DictEntry}{C:Nat},s₁.heap.get? b=some o->o.data=.dict B C->H b=none:=λ{b o B C}e d=>by cases q:H b with|none=>rfl|some u=>have R:b=a:=hA b (by rw[q];simp);subst R;rw[I]at e;cases e;have d':Data.seq l.toArray _=Data.dict B C:=d;cases d'
  have i:∀{b:Addr}{m:R_},s₁.heap.Ns b m->(zh s₁.heap H).Ns b m:=λ{b m}⟨o,B,C,e,d,r⟩=>⟨o,B,C,c e (O e d),d,r⟩;have D:K.In (zh s₁.heap H):=λb o e=>c (X b o e) (by cases q:H b with|none=>rfl|some u=>have R:b=a:=hA b (by rw[q];simp);subst R;rw[hK (by rw[q];simp)]at e;cases e)
  have hM:O3 K mg (zh s₁.heap H):=⟨D,i t,⟨J,i f,M⟩,let⟨mc,h1,h2⟩:=y;⟨mc,i h1,h2⟩⟩;have e0:Dt P w K mg (zh s₁.heap H) callerA [] s₁ H:=⟨rfl,hM,λb o e=>Kj e,Qo (Fa _ _),trivial,λb f=>absurd (show b∈([]:Sg)from f) (by simp),hok,.of_eq hg⟩;refine t1 ((F _ D (i t)).run callerA [] s₁ H ⟨[.ref a],[]⟩ [.ref a] [.ref a] _ _ hr e0 (p s₁ (.ref a)) (.cons rfl .nil) (N H Y hS)) λr g h=>?_;cases r with|error e=>exact(Q H e g h).elim|ok fl=>cases fl with|next=>exact False.elim h|brk=>exact False.elim h|cont=>exact False.elim h|ret u=>obtain⟨v,H',os,bare,un,E,r',q⟩:=h;have q':v=.bl true:=q;subst q';obtain rfl:u=Value.bool true:=r';refine⟨rfl,OldK.of_keep λb o e=>?_,os,bare⟩;cases q:H b with|none=>exact un.keep b o e q (by intro z;exact absurd (show b∈([]:Sg)from z) (by simp)) (by simp)|some u=>
     rcases Y b with z|⟨ob,xs,z⟩
     ·rw[q]at z;cases z
     ·have z2:=un.frzs b ob _ z;obtain⟨e1,_⟩:=hok b _ z;obtain⟨e2,_⟩:=E b _ z2;rw[e]at e1;cases e1;exact e2
 cases S:K.lookup a with|some o=>have e:=X a o S;rw[I]at e;cases e;refine j (λ_=>none) (λ_=>.inl rfl) (.inr ⟨_,l.toArray,_,S,rfl,rfl,rfl,by rw[lh,A];exact Z,by simpa using U⟩) (λb u z=>by have G:(none:Option HO)=some u:=z;cases G) (λb z=>absurd rfl z) λz=>absurd rfl z|none=>
  refine j (λb=>if b=a then some (.frz {cls:=.type "list",data:=.seq l.toArray} (.lst (ns.map V.int)))else none) (λb=>?_) (.inl (.inr ⟨{cls:=.type "list",data:=.seq l.toArray},kw rfl⟩)) (λb u z=>?_) (λb z=>?_) λ_=>S
  ·by_cases f:b=a
   ·exact .inr ⟨_,_,kw f⟩
   ·exact .inl (ku f)
  ·by_cases f:b=a
   ·have G:=(kw f).symm.trans z;cases G;subst f;exact⟨I,by rw[c_];exact Z,l,_,U,I⟩
   ·have G:=(ku f).symm.trans z;cases G
  ·by_cases f:b=a
   ·exact f
   ·exact absurd (ku f) z
end L2
namespace L2
open PySem PySem.Spec PyProof.Rows
abbrev KOf{K:R7}{h:Heap}(_:K.In h):R7:=K
def Ji{l:PySem.W.OpenLaw}{n k:Nat}{q:Sb}{i:Sc}{I:(Str->Option Value)->Heap->Prop}{C:World->Heap->Prop}{d:DefRec}{K:Params->R7}{CX:World->BS}{sp:World->Sp}{x:Str}(hn:l.most=some n)(r:n<=sizeLine)(t:d.params.defaults=[])(J:eK k callerA)(L:∀(w:World)(h:Heap),C w h->(K w.params).In h)(F:∀(w:World)(mg:R_)(p:Addr)(h:Heap),(K w.params).In h->h.Ns mainGlobals mg->mg d.name=some (.ref p)->∃fd:FuncData,(∀(s:Shared)(u:Value),BindsTo s fd ⟨[u],[]⟩ [(x,u)])/\∀base:Heap,(K w.params).In base->base.Ns mainGlobals mg->aO l.prog w (K w.params) mg base (CX w) k p fd [x] (sp w))(y:∀(w:World)(H:Hp)(a:Addr)(ns:Sh),ns.length<=n->zO H->aX (K w.params) H a (ns.map V.int)->sp w [.ref a] H (λv _=>v=.bl true) λ_ _ _=>False)(z:∀(w:World)(H:Hp)(s:Shared)(e:Value)(A:Shared),CX w [] H s (λ_ _ _=>False) e A->False):PySem.W.WalkO q i I C l.row.toRowW d [] (λf D=>PySem.call f D):=by refine Att.BD hn t λw s₀ s₁ mg S p o pm cd M a D ns G Y U hd N B m j c hg=>?_;have E:=L w _ Y;obtain⟨fd,O,P⟩:=F w mg p _ E G.T.g B;exact Hy E G.T.g G.T.b G.T.builtins G.T.nolimit hg m j (n7 c r) J P O (λH Q R=>y w H a ns c Q R) λH e A=>z w H s₁ e A
def FR{l:PySem.W.OpenLaw}{n k:Nat}{q:Sb}{c:Sc}{y:(Str->Option Value)->Heap->Prop}{r:World->Heap->Prop}{d:DefRec}{K:Params->R7}{CX:BS}{sp:R7->Sp}{x:Str}(hn:l.most=some n)(g:n<=sizeLine)(i:d.params.defaults=[])(z:eK k callerA)(A:∀(w:World)(h:Heap),r w h->(K w.params).In h)(F:∀(w:World)(mg:R_)(t:Addr)(h:Heap),(K w.params).In h->h.Ns mainGlobals mg->mg d.name=some (.ref t)->∃fd:FuncData,(∀(s:Shared)(u:Value),BindsTo s fd ⟨[u],[]⟩ [(x,u)])/\∀base:Heap,(K w.params).In base->base.Ns mainGlobals mg->aO l.prog w (K w.params) mg base CX k t fd [x] (sp (K w.params)))(j:∀(K:R7)(H:Hp)(a:Addr)(ns:Sh),ns.length<=n->zO H->aX K H a (ns.map V.int)->sp K [.ref a] H (λv _=>v=.bl true) λ_ _ _=>False)(o:∀(H:Hp)(s:Shared)(e:Value)(p:Shared),CX [] H s (λ_ _ _=>False) e p->False):PySem.W.WalkO q c y r l.row.toRowW d [] (λf B=>PySem.call f B):=Ji (K:=K) (CX:=λ_=>CX) (sp:=λw=>sp (K w.params)) hn g i z A F (λw H a ns h1 h2 h3=>j (K w.params) H a ns h1 h2 h3) λ_ H s e p=>o H s e p
end L2
namespace L2
open PySem PySem.Spec PyProof.Rows
def pQ(s:Stmt):Arguments:=match s with|.FunctionDef _ a _ _ _ _ _ _ _ _=>a|_=>{posonlyargs:=[],args:=[],vararg:=none,kwonlyargs:=[],kw_defaults:=[],kwarg:=none,defaults:=[]}
def gp(s:Stmt):List Stmt:=match s with|.FunctionDef _ _ b _ _ _ _ _ _ _=>b|_=>[]
def ai(s:Stmt):Scope:=match s with|.FunctionDef _ _ _ _ _ _ a _ _ _=>a|_=>{kind:=.function,names:=[],isGenerator:=false,isCoroutine:=false}
abbrev dk:BS:=λ_ _ _ _ _ _=>False
abbrev E0:XK:=λ_ _ _=>False
def bh:lM dk X E0:=λ_ _ _ _ _ _ _ h=>h.elim
structure zQ(K:R7)(x qual:Str)(st:Stmt)(f:Addr)(fd:FuncData):Prop where
 ex:∃(oc:Value)(od:Option Addr)(kV doc pm:Value)(an:Option Addr)(cdv ct:Value)(osl:Array (Option Value)),fd=PySem.W.fnOf x qual (pQ st) (gp st) (ai st) .none kV doc pm an cdv ct/\K.lookup f=some ⟨oc,od,.func fd,osl⟩/\PySem.W.codeIn K cdv qual=true
 kp:PySem.W.keepIn K (.ref f)=true
section
variable{P:Sb}{w:World}{K:R7}{mg:R_}{base:Heap}
def zQ.ok{x a:Str}{st:Stmt}{f:Addr}{fd:FuncData}{N g:Sc}{k:Nat}{sp:Sp}(F:zQ K x a st f fd)(S:au N g (ai st))(len:∀d H Q E,sp d H Q E->d.length=g.length)(e:∀(c:Value)(A:Around)(outer:List Env)(s:Shared)(H:Hp)(d:List V)(Q:VK)(E:XK),eK k (A.deeper (envOfC a (ai st) s.heap.objs.size f c))->sp d H Q E->∃t,xi (rE dk P w K mg base N a (ai st) f c A outer s H E).nox (gp st) t/\t {nx:=λ_ j=>Q .non j,rt:=Q} (i8 N d) H):aO P w K mg base dk (k+1) f fd g sp:=by obtain⟨oc,p,kV,l,pm,r,c,ct,m,rfl,n,b⟩:=F.ex;refine Lv n b S len λA outer s H d Q E o i=>?_;obtain⟨t,h,q⟩:=e c A outer s H d Q E o i;exact⟨t,h.nox,q⟩
def zQ.binds{x a:Str}{st:Stmt}{f:Addr}{fd:FuncData}{e:Sc}(F:zQ K x a st f fd)(h:∀(kV c pm:Value)(g:Option Addr)(d ct:Value)(i:Sa),i.length=e.length->bindArgs (PySem.W.fnOf x a (pQ st) (gp st) (ai st) .none kV c pm g d ct) ⟨i,[]⟩=pure (e.zip i)):fW K fd e []:=by obtain⟨oc,k,kV,c,pm,g,d,ct,b,rfl,l,j⟩:=F.ex;exact .all (h kV c pm g d ct)
def C4{x a:Str}{st:Stmt}{f:Addr}{oc:Value}{i h:Option Addr}{g:Array (Option Value)}{kV e pm d ct:Value}(l:K.lookup f=some ⟨oc,i,.func (PySem.W.fnOf x a (pQ st) (gp st) (ai st) .none kV e pm h d ct),g⟩)(c:PySem.W.codeIn K d a=true)(k:PySem.W.keepIn K (.ref f)=true):zQ K x a st f (PySem.W.fnOf x a (pQ st) (gp st) (ai st) .none kV e pm h d ct):=⟨⟨oc,i,kV,e,pm,h,d,ct,g,rfl,l,c⟩,k⟩
end
def ck(a:eK k A):A.units+1<cLine:=QL (Nat.add_le_add_left (by decide:1<=64) _) a.units
section
variable{X:Cx}
def Y(i:Nat)(c:X.N[i]?=some x:=by rfl)(d:Pi X.env.scope x:=by first|exact Or.inl rfl|exact Or.inr (Or.inl rfl)|exact Or.inr (Or.inr rfl))(hd:(x==("__debug__":Str))=false:=by decide)(a:(x==("__classdict__":Str))=false:=by decide):PE X (.Name x e) (LU i):=MA c d hd a
end
def bV{A B:Prop}(h:B):if false=true then A else B:=by rw[ku mo];exact h
def bD{A B:Prop}(h:A):if true=true then A else B:=by rw[kw rfl];exact h
def am(H a:Hp):Prop:=∀b o,H b=some o->a b=some o
def am.refl(H:Hp):am H H:=λ_ _ h=>h
def am.trans(a:am H d)(b:am d e):am H e:=λc o h=>b c o (a c o h)
def am.free(e:am H a)(h:a l=Option.none):H l=Option.none:=by cases q:H l with|none=>rfl|some o=>rw[e l o q]at h;cases h
def am.seq{K:R7}{H c:Hp}{a:Addr}{d:List V}(e:am H c)(h:aX K H a d):aX K c a d:=by
 rcases h with(h|⟨o,h⟩)|h
 ·exact .inl (.inl (e _ _ h))
 ·exact .inl (.inr ⟨o,e _ _ h⟩)
 ·exact .inr h
section
variable{a:Type}[DecidableEq a]
def xP{p:a×V}{r:List (a×V)}{k:a}(e:p.1=k):dD (p::r) k=dD r k:=by unfold dD;rw[Q8,ku (by simp[e])]
def xQ{p:a×V}{r:List (a×V)}{k:a}(e:¬p.1=k):dD (p::r) k=p::dD r k:=by unfold dD;rw[Q8,kw (by simp[e])]
end
end L2
set_option maxHeartbeats 4000000
namespace L2
open PySem PySem.Spec PyProof.Rows
section
variable{prog:Sb}{w:World}{A:Around}{R:Result->Shared->Prop}{s:Shared}
def kP(h:wpAny M A t Q (λ_ _=>False) s)(k:∀a s,Q a s->c a s):wpAny M A t c E s:=wpAny_mono h k λ_ _ z=>z.elim
def Bs(J:Nat->Shared->Prop)(l:∀n s,J n s->wpAny (model prog w) A (pyNext B) (λr s₁=>match r with|none=>R (.ok .next) s₁|some v=>wpAny (model prog w) A (letOwnedTupleGo a B v) (λ_ d=>wpAny (model prog w) A (assign a env v) (λ_ e=>wpAny (model prog w) A (forIn k true λc r=>if r=true then do let ok<-isTrue c env (eval c env);pure (ForInStep.yield ok)else pure (ForInStep.yield r)) (λok b=>if ok=true then wpAny (model prog w) A (eval o env) (λx f=>wpAny (model prog w) A (call (.builtin "list.append") [p,x]) (λ_ g=>∃m,m<n/\J m g) (λ_ _=>False) f) (λ_ _=>False) b else∃m,m<n/\J m b) (λ_ _=>False) e) (λ_ _=>False) d) (λ_ _=>False) s₁) (λ_ _=>False) s)(n:Nat)(h:J n s):codeAny (model prog w) A (.compLoop (.ListComp o [⟨a,q,k,0⟩] scope C) 0 B p env) R s:=by refine codeAny_loop rfl J (λn s D=>?_) n h;show wpAny _ A ((compTurn (.ListComp o [⟨a,q,k,0⟩] scope C) 0 B p env).onRaise (λx=>do noteFrame x env;theTreesLotGoes x)) _ _ s;refine wpAny_noted ?_;rw[compTurn_list];refine a_ (wpAny_standAt (a_ (kP (l n s D) (λr s₁ i=>?_))));cases r with|none=>exact e_ i|some v=>refine a_ (kP i λ_ d t=>a_ (kP t λ_ e u=>a_ (kP u λok b j=>?_)));cases ok with|false=>exact e_ ⟨rfl,j⟩|true=>exact a_ (a_ (kP j λx f y=>a_ (kP y λ_ g z=>e_ (e_ ⟨rfl,z⟩))))
end
theorem lU{f:Str->NameKind->NameKind}:∀(l:List (Str×NameKind))(x:Str),(l.map λp=>(p.1,f p.1 p.2)).lookup x=(l.lookup x).map (f x)|[],_=>rfl|(n,k)::r,x=>by rw[oD,Q6,Q6];cases a:x==n with
 |true=>
   have e:x=n:=by simpa using a
   subst e;rfl|false=>exact lU r x
def ml(env:Env)(n:Str)(k:NameKind):NameKind:=if(k==.free&&env.scope.kind==.function&&env.kindOf n==some .cell)=true then .cell else k
def jj(scope:Scope)(env:Env)(x:Str):(relabel scope env).names.lookup x=(scope.names.lookup x).map (ml env x):=by
 rw[<-lU];unfold relabel
 congr 1
 show List.map _ scope.names=List.map _ scope.names
 congr 1
 funext p
 obtain⟨n,k⟩:=p;show(if(k==NameKind.free&&env.scope.kind==.function&&env.kindOf n==some .cell)=true then(n,NameKind.cell)else(n,k))=(n,ml env n k);unfold ml
 split<;>rfl
theorem oO{env:Env}{f:Str×NameKind->List (Str×Addr)->Sem (ForInStep (List (Str×Addr)))}(d:∀n c r,cellOf env n=pure c->f (n,.free) r=pure (.yield ((n,c)::r)))(g:∀n k r,k≠.free->f (n,k) r=pure (.yield r)):∀(l:List (Str×NameKind))(cs:List (Str×Addr)),(∀y∈l,y.2=.free->∃c,env.cells.lookup y.1=some c)->∃cl:List (Str×Addr),forIn l cs f=pure cl/\(∀x c,cl.lookup x=some c->env.cells.lookup x=some c\/cs.lookup x=some c)/\(∀x,(∃c,cs.lookup x=some c)\/(x,NameKind.free)∈l->∃c,cl.lookup x=some c)
 |[],cs,_=>⟨cs,rfl,λ_ _ h=>.inr h,λx h=>h.elim id nofun⟩|(n,k)::r,cs,h=>by
  by_cases o:k=.free
  ·subst o;obtain⟨c,hc⟩:=h (n,.free) mm rfl;obtain⟨cl,h1,h2,h3⟩:=oO d g r ((n,c)::cs) λy p=>h y (k4 _ p);refine⟨cl,?_,λx i a=>?_,λx a=>h3 x ?_⟩
   ·rw[QF,d n c cs (by unfold cellOf;rw[hc])];exact h1
   ·rcases h2 x i a with z|z
    ·exact .inl z
    ·rw[Q6]at z;cases b:x==n with|true=>
      rw[b]at z;have j:x=n:=by simpa using b
      have m:c=i:=by simpa using z
      subst j;subst m;exact .inl hc|false=>rw[b]at z;exact .inr z
   ·rcases a with⟨i,a⟩|a
    ·refine .inl ?_;rw[Q6];cases b:x==n with|true=>exact⟨c,rfl⟩|false=>exact⟨i,a⟩
    ·rcases pw.mp a with e|e
     ·injection e with j m;subst j;exact .inl ⟨c,by simp⟩
     ·exact .inr e
  ·obtain⟨cl,h1,h2,h3⟩:=oO d g r cs λy p=>h y (k4 _ p);refine⟨cl,?_,h2,λx a=>h3 x ?_⟩
   ·rw[QF,g n k cs o];exact h1
   ·rcases a with a|a
    ·exact .inl a
    ·rcases pw.mp a with e|e
     ·injection e with j m;exact absurd m.symm o
     ·exact .inr e
def xc{env:Env}{scope:Scope}(h:∀y∈scope.names,y.2=.free->∃c,env.cells.lookup y.1=some c):∃cl:List (Str×Addr),closureFor scope env=pure cl/\(∀x c,cl.lookup x=some c->env.cells.lookup x=some c)/\(∀x,(x,NameKind.free)∈scope.names->∃c,cl.lookup x=some c):=by
 simp only[closureFor];obtain⟨cl,h1,h2,h3⟩:=oO (env:=env) (f:=λ(x:Str×NameKind)(r:List (Str×Addr))=>match x with|(b,kind)=>if(kind==NameKind.free)=true then(do let a<-cellOf env b;pure (ForInStep.yield ((b,a)::r)))else pure (ForInStep.yield r)) (λn c r e=>by show(if(NameKind.free==NameKind.free)=true then(do let a<-cellOf env n;pure (ForInStep.yield ((n,a)::r)))else pure (ForInStep.yield r):Sem _)=_;rw[kw (by decide),e];rfl) (λn k r e=>by show(if(k==NameKind.free)=true then(do let a<-cellOf env n;pure (ForInStep.yield ((n,a)::r)))else pure (ForInStep.yield r):Sem _)=_;rw[ku (by simpa using e)]) scope.names [] h
 refine⟨cl,?_,λx c e=>(h2 x c e).elim id λz=>by simp at z,λx d=>h3 x (.inr d)⟩;rw[h1];rfl
def Cx.comp(X:Cx)(scope:Scope)(a:Sc)(cl:List (Str×Addr))(C:Addr)(s₀:Shared)(H₀:Hp)(ex:Sg):Cx:={prog:=X.prog,w:=X.w,K:=X.K,mg:=X.mg,base:=X.base,A:=X.A,N:=a,s₀:=s₀,H₀:=H₀,env:=compEnvC scope cl C X.env,outer:=X.stack,stack:=X.stack,ex:=ex,fn:=λ_=>false,calm:=X.calm,pn:=X.pn,xe:=λ_ _=>False}
def fX(ds:Sf)(k:Nat)(a:St):St:=ds.foldl (λa i=>a.set i none) a++List.replicate k none
def oM(ds:Sf):∀a:St,(ds.foldl (λa i=>a.set i none) a).length=a.length:=by induction ds with|nil=>intro a;rfl|cons d r b=>intro a;rw[z0,b];simp
def C6(ds:Sf):∀(a:St)(i:Nat)(v:V),(ds.foldl (λa i=>a.set i none) a)[i]?=some (some v)->a[i]?=some (some v)/\i∉ds:=by induction ds with|nil=>intro a i v h;exact⟨h,by simp⟩|cons d r b=>
  intro a i v h;rw[z0]at h;obtain⟨h1,h2⟩:=b _ i v h
  by_cases e:d=i
  ·subst e
   by_cases c:d<a.length
   ·rw[G_ c]at h1;cases h1
   ·rw[Qd.mpr (by rw[u_];lia)]at h1;cases h1
  ·rw[ry e]at h1;exact⟨h1,λz=>(pw.mp z).elim (λq=>e q.symm) h2⟩
def Bj(h:(fX ds k a)[i]?=some (some v)):a[i]?=some (some v)/\i∉ds/\i<a.length:=by
 unfold fX at h
 by_cases b:i<a.length
 ·rw[so (by rw[oM];exact b)]at h;obtain⟨h1,h2⟩:=C6 ds a i v h;exact⟨h1,h2,b⟩
 ·rw[z7 (by rw[oM];lia)]at h;have:=d_.mp h;obtain⟨h1,h2⟩:=this;rw[List.getElem_replicate]at h2;cases h2
def Le(X:Cx)(d:Sd)(t:TT):Prop:=∀(a:R9)(s:Shared)(b:St)(H:Hp)(Q:Bool->Hp->Prop),aL X a b H s->t b H Q->wpAny (model X.prog X.w) X.A (forIn d true λc r=>if r=true then do let ok<-isTrue c X.env (eval c X.env);pure (ForInStep.yield ok)else pure (ForInStep.yield r)) (TP X a b Q) X.xe s
def NX:TT:=λ_ H Q=>Q true H
def cr:Le X [] NX:=λ_ _ _ H _ I h=>wpAny_tests_nil ⟨H,I,h⟩
def yE(h:PT X c t):Le X [c] t:=λa s b H Q I q=>wpAny_tests_one (h a s b H Q I q)
def GK(g:TG)(c:Sf):Prop:=∀x b H Q,g x b H Q->g x b H λa d=>Q a d/\a.length=b.length/\∀i,i∉c->a[i]?=b[i]?
def cw(j:Nat):GK (kX j) [j]:=λx a H Q h=>by refine⟨h,by simp,λi hi=>?_⟩;rw[ry (λe=>hi (by simp[e]))]
def C0(K:R7)(i j:Nat):GK (MZ K 2 (Ia (kX i) (Ia (kX j) OS))) [i,j]:=λx l H Q h=>by obtain⟨a,b,e,c,d,v,r,f,u,r2,g,k,q⟩:=h;refine⟨a,b,e,c,d,v,r,f,u,r2,g,k,q,by simp,λn hn=>?_⟩;have h1:n≠i:=λz=>hn (by simp[z]);have h2:n≠j:=λz=>hn (by simp[z]);rw[ry (pv h2),ry (pv h1)]
def uj(o:TI)(g:TG)(ds:Sf)(k:Nat)(tc:TT)(te:TE):TE:=λf H Q=>o f H λJ h=>∀D,h D=none->∃W:Nat->Nat->List V->Hp->Prop,(∃m,W 0 m [] (aA h D (.lst [])))/\∀i m a c,W i m a c->(J.stop i c/\Q (.ref D) c)\/(J.go i c/\∀x j,J.yld i c x j->g x (fX ds k f) j λd p=>tc d p λb l=>if b=true then te d l λy n=>n D=some (.lst a)/\a.length<sizeLine/\∃e,e<m/\W (i+1) e (a++[y]) (aA n D (.lst (a++[y])))else∃e,e<m/\W (i+1) e a l)
section
variable{X:Cx}
def IF(I:aL X t σ H s)(f:∀b∈fp,vO X t H b)(fo:∀b∈fp,∃o,s.heap.get? b=some o)(E:scope.kind=.function)(F:∀y∈scope.names,y.2≠.cell)(G:∀y∈scope.names,y.2=.free->X.env.scope.names.lookup y.1=some .cell\/X.env.scope.names.lookup y.1=some .free)(g:∀x c,cl.lookup x=some c->X.env.cells.lookup x=some c)(D:∀x,(x,NameKind.free)∈scope.names->∃c,cl.lookup x=some c)(hN:W=X.N++L)(hk:L.length=k)(M:∀i x,X.N[i]?=some x->scope.names.lookup x=some .local->i∈ds)(P:s.heap.objs.size<C)(keep:∀b o,s.heap.get? b=some o->j.get? b=some o)(Z:j.Ns C m)(hD:j.get? s.heap.objs.size=some {cls:=.type "list",data:=.seq ([]:Sa).toArray 0}):aL (X.comp scope W cl C s H fp) t (fX ds k σ) (aA H s.heap.objs.size (.lst [])) {s with heap:=j,toks:=tk}:=by
 have fresh:H s.heap.objs.size=none:=I.hok.fresh (f_ _);have O:lY X.prog X.w (aA H s.heap.objs.size (.lst [])) j:=I.hok.laid keep (f_ _) ⟨n0 _,[],0,.nil,hD⟩;have J:∀b∈fp,b<s.heap.objs.size:=λb A=>let⟨_,e⟩:=fo b A;kl e;have K:∀b,b∈jG X.stack->∀p∈X.pn++t,p.1≠b:=λb A p T e=>by
  obtain⟨_,_,n1,n2,_⟩:=I.pin p T;rcases pw.mp (I.stkSub b A)with z|z
  ·exact n1 (e.trans z)
  ·exact n2 (e▸z)
 have B:∀x c,cl.lookup x=some c->c<s.heap.objs.size:=λx c e=>by obtain⟨v,z⟩:=I.cell x c (g x c e);exact z.lt
 have a:∀x,(relabel scope X.env).names.lookup x=some .cell\/(relabel scope X.env).names.lookup x=some .free->scope.names.lookup x=some .free:=λx h=>by rw[jj]at h;cases e:scope.names.lookup x with|none=>rw[e]at h;simp at h|some q=>
   rw[e]at h;have hm:=mem_of_lookup e;have nc:q≠.cell:=F _ hm;simp only[Qi,QS]at h;unfold ml at h
   split at h
   ·rename_i hc;have:(q==NameKind.free)=true:=by cases hq:q==NameKind.free with|true=>rfl|false=>rw[hq]at hc;simp at hc
    have:q=.free:=by simpa using this
    rw[this]
   ·rcases h with h|h
    ·exact absurd h nc
    ·rw[h]
 refine⟨⟨I.ok.mod,?_,I.ok.glob,I.ok.blt,tl P,?_,?_,?_,I.ok.hd,I.ok.frames,.inl rfl,?_,I.bs,n7 I.ok.bsz I.sz,?_,?_,I.stack,I.stkFree⟩,rfl,I.bare,Un.laid keep (f_ _) fresh,⟨m,Z,?_⟩,?_,?_,?_,?_,O,?_⟩
 ·exact E
 ·intro x y c Y hy;exact I.ok.inj x y c (g x c Y) (g y c hy)
 ·intro x Y;exact D x (mem_of_lookup (a x Y))
 ·intro x c hf;exact absurd hf (by simp[Cx.comp])
 ·intro b A;refine⟨l_ (C_ (J b A) P),λx c e z=>?_⟩;exact(f b A).2.2.2.2.1 x c (g x c e) z
 ·intro b o e A;rcases(f b A).2.2.2.1 with z|z
  ·exact I.ok.noex b o e z
  ·exact absurd (pu (kl e) (n7 I.ok.bsz z)) (ri _)
 ·intro b A hs;rcases pw.mp (I.stkSub b hs)with z|z
  ·exact(f b A).2.1 z
  ·exact(f b A).2.2.1 z
 ·intro i x v U e2 vis;obtain⟨g1,g2,g3⟩:=Bj e2;have Q:X.N[i]?=some x:=by have U:W[i]?=some x:=U;rw[hN,so (by rw[<-I.len];exact g3)]at U;exact U
  have hv:scope.names.lookup x=some .free:=by
   rcases vis with z|z|z
   ·exfalso;have z:(relabel scope X.env).names.lookup x=some .local:=z;rw[jj]at z;cases e:scope.names.lookup x with|none=>rw[e]at z;simp at z|some q=>
     rw[e]at z;simp only[Qi,QS]at z;unfold ml at z
     split at z
     ·cases z
     ·subst z;exact g2 (M i x Q e)
   ·exact a x (.inl z)
   ·exact a x (.inr z)
  have hm:=mem_of_lookup hv;have hX:=G _ hm rfl;obtain⟨mX,_,hl⟩:=I.loc;have R:Pi X.env.scope x:=by
   rcases hX with z|z
   ·exact .inr (.inl z)
   ·exact .inr (.inr z)
  obtain⟨u,r,l⟩:=hl i x v Q g1 R;refine⟨u,r,.inr ⟨?_,?_⟩⟩
  ·show(relabel scope X.env).names.lookup x=some .cell\/(relabel scope X.env).names.lookup x=some .free;rw[jj,hv];show some (ml X.env x .free)=some .cell\/some (ml X.env x .free)=some .free;unfold ml
   split
   ·exact .inl rfl
   ·exact .inr rfl
  ·obtain⟨c,hc⟩:=D x hm;have aa:=g x c hc;refine⟨c,hc,?_⟩;rcases l with⟨V,_⟩|⟨_,c',S,o,ho,hd⟩
   ·exfalso;have V:X.env.scope.names.lookup x=some .local:=V;rcases hX with z|z
    ·rw[V]at z;cases z
    ·rw[V]at z;cases z
   ·rw[aa]at S;cases S;exact⟨o,keep c o ho,hd⟩
 ·intro x c e;obtain⟨v,o,ho,hd⟩:=I.cell x c (g x c e);exact⟨v,o,keep c o ho,hd⟩
 ·show aA H s.heap.objs.size (.lst []) C=none;rw[ak (ov P)];exact I.hok.fresh (tl P)
 ·intro x c e;rw[ak (l_ (B x c e))];exact I.freeC x c (g x c e)
 ·intro p T;obtain⟨e,n,n1,n2,d⟩:=I.pin p T;have lt:=kl e;refine⟨keep _ _ e,?_,l_ (C_ lt P),λz=>K p.1 z p T rfl,d⟩;rw[ak (l_ lt)];exact n
 ·show(fX ds k σ).length=W.length;unfold fX;rw[kt,oM,I.len,hN,kt,Qr,hk]
def IE(I:aL X a p H s)(f:∀b∈fp,vO X a H b)(g:aL (X.comp scope x cl C s H fp) a r i j)(t:s.heap.objs.size<C)(l:Heap.SameBut C j.heap h'):aL X a p i {j with heap:=h'}:=by
 have u:=g.base;have d:i C=none:=g.free;have ne:∀b o,s.heap.get? b=some o->b≠C:=λb o e=>l_ (C_ (kl e) t);have m:Un (jG X.stack) fp H i s.heap h':=by
  refine⟨λb o e n h1 h2=>?_,λb o e n h1 h2=>?_,u.free,λb o e h2=>?_,u.tups,u.frzs,u.tbls⟩
  ·exact(l.2 b (ne b o e)).trans (u.keep b o e n h1 h2)
  ·obtain⟨sl,q⟩:=u.slot b o e n h1 h2;exact⟨sl,(l.2 b (ne b o e)).trans q⟩
  ·obtain⟨v,q⟩:=u.there b o e h2;exact⟨v,(l.2 b (ne b o e)).trans q⟩
 have h:lY X.prog X.w i h':=λb ob e=>by
  refine(g.hok b ob e).stay (λc y hc q=>(l.2 c ?_).trans q) (λ_ q=>q) λ_ _ q=>q;rintro rfl;rcases hc with rfl|hc
  ·rw[d]at e;cases e
  ·rw[d]at hc;cases hc
 exact I.call' (s':={j with heap:=h'}) g.os m h g.bare λb k=>⟨(f b k).2.2.2.1,(f b k).2.1,(f b k).2.2.2.2.1,(f b k).2.2.2.2.2⟩
def aL.block_gone(I:aL X a d H s)(hn:H C=none)(f:C≠X.env.locals)(h1:X.s₀.heap.objs.size<=C)(h2:∀x c,X.env.cells.lookup x=some c->c≠C)(h3:∀p∈X.pn++a,p.1≠C)(g:Heap.SameBut C s.heap h'):aL X a d H {s with heap:=h'}:=I.turned (t':=s.toks) (λb o h e=>(g.2 b h).trans e) hn f (.inr h1) h2 h3
def xS(N':Sc)(ds:Sf)(k:Nat){a:R9}{s:Shared}{P:St}{H:Hp}{Q:VK}{use:Option (Value->Sem Unit)}{QV:R8}(hc:X.calm=true)(hi:PI X tg l wi)(G:∀cl C s₀ H₀ ex,PG (X.comp scope N' cl C s₀ H₀ ex) tg g/\Le (X.comp scope N' cl C s₀ H₀ ex) R tc/\PE (X.comp scope N' cl C s₀ H₀ ex) a7 te)(hg:GK g js)(hj:∀P:St,P.length=X.N.length->∀j∈js,∀v,(fX ds k P)[j]?≠some (some v))(L:scope.kind=.function)(S:∀y∈scope.names,y.2≠.cell)(aa:∀y∈scope.names,y.2=.local->scope.names.lookup y.1=some .local)(Z:∀y∈scope.names,y.2=.free->X.env.scope.names.lookup y.1=some .cell\/X.env.scope.names.lookup y.1=some .free)(hN:N'=X.N++a8)(hk:a8.length=k)(ba:∀i x,X.N[i]?=some x->scope.names.lookup x=some .local->i∈ds)(hs:∀x,foldedSetIterable l X.env x=pure x)(I:aL X a P H s)(h:uj wi g ds k tc te P H Q)(fin:∀(D C:Addr)(H':Hp)(s':Shared)(m:R_),aL X a P H' s'->Q (.ref D) H'->s'.heap.Ns C m->H' C=none->C≠X.env.locals->X.s₀.heap.objs.size<=C->(∀x c,X.env.cells.lookup x=some c->c≠C)->(∀p∈X.pn++a,p.1≠C)->compPost (model X.prog X.w) X.A X.xe use QV (.ref D) C (.ok .next) s'):wpAny (model X.prog X.w) X.A (comprehension (.ListComp a7 [⟨tg,l,R,0⟩] scope bb) scope X.env (firstIterPos [⟨tg,l,R,0⟩] bb) (newList []) (firstAsync [⟨tg,l,R,0⟩]) (firstIter [⟨tg,l,R,0⟩] X.env) use) QV X.xe s:=by
 have V:∀y∈scope.names,y.2=.free->∃c,X.env.cells.lookup y.1=some c:=λy hy e=>I.ok.has y.1 (Z y hy e);obtain⟨cl,as,bc,bi⟩:=xc V;refine wpAny_comprehension_free (use:=use) rfl hs as L aa (cq (hi a s P H _ I h) λv s1 h1=>cq h1 λc4 t h2=>?_);obtain⟨it,fp,tn,J,H2,e,Y,T,bj,f2,q⟩:=h2;subst e;have da:=Y;obtain⟨W,⟨m0,w0⟩,bl⟩:=q t.heap.objs.size (Y.hok.fresh (f_ _));refine q4 (wpAny_newFunctionEnv S (by intro y hy;simp at hy) (λE B hsb₁=>?_) L);dsimp only at B hsb₁⊢;generalize a0:t.heap.push {cls:=.type "list",dict:=none,data:=.seq ([]:Sa).toArray}=G2 at B hsb₁⊢;have hC:t.heap.objs.size<G2.objs.size:=by rw[<-a0,op];exact rV _
 have keep:∀b o,t.heap.get? b=some o->E.get? b=some o:=λb o e=>hsb₁.extBut b o (l_ (C_ (kl e) hC)) (b_ _ (a0▸b_ _ e))
 have hD:E.get? t.heap.objs.size=some {cls:=.type "list",data:=.seq ([]:Sa).toArray 0}:=hsb₁.extBut _ _ (l_ hC) (b_ _ (a0▸g_ _ rfl));have fo:∀b∈fp,∃o,t.heap.get? b=some o:=λb G=>let⟨o,e,_⟩:=T.obj _ _ bj b G;⟨o,e⟩;obtain⟨bt,bv,bz⟩:=G cl G2.objs.size t H2 fp;generalize f:X.comp scope N' cl G2.objs.size t H2 fp=M at bt bv bz;have xp:M.prog=X.prog:=by rw[<-f];rfl
 have xw:M.w=X.w:=by rw[<-f];rfl
 have xK:M.K=X.K:=by rw[<-f];rfl
 have xA:M.A=X.A:=by rw[<-f];rfl
 have xe:M.xe=λ_ _=>False:=by rw[<-f];rfl
 have F:M.env=compEnvC scope cl G2.objs.size X.env:=by rw[<-f];rfl
 have bN:M.calm=true:=by rw[<-f];exact hc
 have i8:aL M a (fX ds k P) (aA H2 t.heap.objs.size (.lst [])) {t with heap:=E,toks:=t.toks+([]:List (Str×Value)).length}:=by rw[<-f];exact IF Y f2 fo L S Z bc bi hN hk ba hC keep B hD
 have b0:tn 0 E:=T.keep _ _ _ bj λb _ o e=>keep b o e;have cF:∀b∈fp,aA H2 t.heap.objs.size (.lst []) b=none:=λb G=>by obtain⟨o,e⟩:=fo b G;rw[ak (l_ (kl e))];exact(f2 b G).1
 have U:∀{H':Hp},(∀b∈fp,H' b=none)->∀b∈fp,vO M a H' b:=λhn b G=>by
  obtain⟨f0,f1,f3,f4,f5,f6⟩:=f2 b G;obtain⟨o,e⟩:=fo b G;refine⟨hn b G,?_,?_,?_,?_,?_⟩
  ·rw[F];exact l_ (C_ (kl e) hC)
  ·intro z;have z:b∈jG X.stack:=by rw[<-f]at z;exact z
   rcases pw.mp (Y.stkSub b z)with y|y
   ·exact f1 y
   ·exact f3 y
  ·rw[<-f];exact .inl G
  ·intro x c ec;rw[F]at ec;exact f5 x c (bc x c ec)
  ·intro p hp;rw[<-f]at hp;exact f6 p hp
 have an:codeAny (model X.prog X.w) X.A (.compLoop (.ListComp a7 [⟨tg,l,R,0⟩] scope bb) 0 (.ref it) (.ref t.heap.objs.size) (compEnvC scope cl G2.objs.size X.env)) (compPost (model X.prog X.w) X.A X.xe use QV (.ref t.heap.objs.size) G2.objs.size) {t with heap:=E,toks:=t.toks+([]:List (Str×Value)).length}:=by
  refine Bs (λn s'=>∃i O H',aL M a (fX ds k P) H' s'/\tn i s'.heap/\(∀b∈fp,H' b=none)/\W i n O H') ?_ m0 ⟨0,[],_,i8,b0,cF,w0⟩;rintro n s3⟨i,O,H3,I3,b8,b9,w3⟩;rcases bl i n O H3 w3 with⟨stop,qn⟩|⟨go,step⟩
  ·have td:=T.done M xp xw xK bN i a s3 _ H3 (λ_ _=>False) I3 (U b9) b8 stop;rw[xA]at td;refine cq td λr s4⟨hr,I4⟩=>?_;subst hr;have ad:=I4;rw[<-f]at ad;obtain⟨m',c0,_⟩:=ad.loc;refine fin t.heap.objs.size G2.objs.size H3 s4 m' (IE (h':=s4.heap) Y f2 ad hC (.refl ..)) qn c0 ad.free (ov (C_ Y.lt hC)) (tl (QL Y.sz hC)) (λx c e z=>?_) λp hp z=>?_
   ·obtain⟨v,q⟩:=Y.cell x c e;exact absurd (C_ q.lt hC) (by rw[z];exact ri _)
   ·exact absurd (C_ (kl (Y.pin p hp).1) hC) (by rw[z];exact ri _)
  ·have ti:=T.item M xp xw xK bN i a s3 _ H3 (λ_ _=>False) I3 (U b9) b8 go;rw[xA]at ti;refine cq ti λr s4⟨u,hr,h4⟩=>?_;subst hr;refine cq h4 λ_ s5⟨x,H5,I5,r5,y5,a5,c1⟩=>?_;have c2:=I5.pinned (U c1) (T.obj _ _ a5);have pg:=bt _ s5 _ H5 x u _ c2 r5 (hg x _ H5 _ (step x H5 y5));rw[xp,xw,xA,F,xe]at pg;refine cq pg λ_ s6⟨al,H6,I6,⟨q6,cc,a6⟩⟩=>?_;have again:∀{H7:Hp}{s7:Shared},aL M (a++uR fp s5.heap) al H7 s7->aL M a (fX ds k P) H7 s7/\tn (i+1) s7.heap/\∀b∈fp,H7 b=none:=λ{H7 s7}I7=>by
    refine⟨I7.unpinned.weak cc.symm λj v e=>?_,T.keep _ _ _ a5 λb G o e=>(I7.pin (b,o) (qc _ (qc _ (lI G e)))).1,λb G=>?_⟩
    ·rw[a6 j λz=>hj P I.len j z v e];exact e
    ·obtain⟨o,e,d⟩:=T.obj _ _ a5 b G;exact(I7.pin (b,o) (qc _ (qc _ (lI G e)))).2.1
   have pt:=bv _ s6 al H6 _ I6 q6;rw[xp,xw,xA,F,xe]at pt;refine cq pt λok s7⟨H7,I7,q7⟩=>?_;cases ok with|false=>obtain⟨m',hm,w7⟩:=q7;obtain⟨a1,a2,a3⟩:=again I7;exact⟨m',hm,i+1,O,H7,a1,a2,a3,w7⟩|true=>have pe:=bz _ s7 al H7 _ I7 q7;rw[xp,xw,xA,F,xe]at pe;refine cq pe λyv s8⟨y,H8,I8,r8,c3,ci,m',hm,w8⟩=>?_;have ap:=eZ (X:=M) _ s8 al H8 (.ref t.heap.objs.size) [y] _ [yv] (λv H9=>H9=aA H8 t.heap.objs.size (.lst (O++[y]))) I8 rfl (.cons r8 .nil) ⟨_,O,y,rfl,rfl,c3,ci,rfl⟩;rw[xp,xw,xA,xe]at ap;refine cq ap λ_ s9⟨_,H9,I9,_,e9⟩=>?_;subst e9;obtain⟨a1,a2,a3⟩:=again I9;exact⟨m',hm,i+1,O++[y],_,a1,a2,a3,w8⟩
 exact codeAny_compStart_list an (T.self _ 0 _ _ _ b0 an)
def Kd(l:Sc)(ds:Sf)(k:Nat)(hc:X.calm=true)(hi:PI X u c w)(z:∀cl C s₀ H₀ ex,PG (X.comp scope l cl C s₀ H₀ ex) u g/\Le (X.comp scope l cl C s₀ H₀ ex) p tc/\PE (X.comp scope l cl C s₀ H₀ ex) r te)(hg:GK g A)(B:∀t:St,t.length=X.N.length->∀j∈A,∀v,(fX ds k t)[j]?≠some (some v))(d:scope.kind=.function)(e:∀y∈scope.names,y.2≠.cell)(a:∀y∈scope.names,y.2=.local->scope.names.lookup y.1=some .local)(f:∀y∈scope.names,y.2=.free->X.env.scope.names.lookup y.1=some .cell\/X.env.scope.names.lookup y.1=some .free)(E:l=X.N++n)(F:n.length=k)(o:∀i x,X.N[i]?=some x->scope.names.lookup x=some .local->i∈ds)(G:∀x,foldedSetIterable c X.env x=pure x:=by intro _;rfl):PE X (.ListComp r [⟨u,c,p,0⟩] scope J) (uj w g ds k tc te):=by intro b s t H Q I h;rw[eval_ListComp];refine xS l ds k hc hi z hg B d e a f E F o G I h λD C K P m L q hn n1 n2 n3 n4 M=>?_;exact⟨m,hn,λh' O=>⟨.ref D,K,L.block_gone n1 n2 n3 n4 M O,rfl,q⟩⟩
def J5(t:Sc)(ds:Sf)(k:Nat)(G:X.N.Nodup)(J:X.N[i]?=some x)(R:NJ X.env.scope x)(S:X.fn x=true\/X.env.scope.names.lookup x=some .local)(L:swapsWith (.ListComp l [⟨F,c,n,0⟩] scope u) (some (.Name x d)) w.line X.env=pure true)(hc:X.calm=true)(hi:PI X F c T)(W:∀cl C s₀ H₀ ex,PG (X.comp scope t cl C s₀ H₀ ex) F g/\Le (X.comp scope t cl C s₀ H₀ ex) n tc/\PE (X.comp scope t cl C s₀ H₀ ex) l te)(hg:GK g Z)(hj:∀M:St,M.length=X.N.length->∀j∈Z,∀v,(fX ds k M)[j]?≠some (some v))(o:scope.kind=.function)(p:∀y∈scope.names,y.2≠.cell)(f:∀y∈scope.names,y.2=.local->scope.names.lookup y.1=some .local)(r:∀y∈scope.names,y.2=.free->X.env.scope.names.lookup y.1=some .cell\/X.env.scope.names.lookup y.1=some .free)(hN:t=X.N++B)(hk:B.length=k)(E:∀i x,X.N[i]?=some x->scope.names.lookup x=some .local->i∈ds)(hs:∀x,foldedSetIterable c X.env x=pure x:=by intro _;rfl):PS X (.Assign [.Name x d] (.ListComp l [⟨F,c,n,0⟩] scope u) w) (BY (uj T g ds k tc te) (kX i)):=by
 intro b s M H D I h;rw[exec_Assign_Name_used _ _ _ _ L];refine a_ (wpAny_standAt (a_ ?_));show wpAny _ X.A (do let _<-comprehension (.ListComp l [⟨F,c,n,0⟩] scope u) scope X.env _ (newList []) false (eval c X.env) (some (assign (.Name x d) X.env))) _ _ s;refine a_ (wpAny_mono (xS (QV:=λ_ K=>SP X b D .next K) (use:=some (assign (.Name x d) X.env)) t ds k hc hi W hg hj o p f r hN hk E hs I h λDa C V K m Y q hn n1 n2 n3 n4 n5=>?_) (λ_ K hq=>e_ (e_ hq)) λ_ _ e=>e)
 show wpAny _ X.A (assign (.Name x d) X.env (.ref Da)) _ _ _;refine wpAny_assign_Name (xu Y G J R (v:=.ref Da) rfl (λaa O⟨a,sb,ha⟩=>?_) S);have P:C≠a:=by
  rcases ha with z|z
  ·rw[z];exact n2
  ·exactλe=>n4 x a z e.symm
 exact⟨m,hn.sameBut sb P,λh' Q=>⟨_,V,O.block_gone n1 n2 n3 n4 n5 Q,q⟩⟩
def rK(N0:Sc)(ds:Sf)(a scope:Scope):Bool:=scope.kind==.function&&scope.names.all (λy=>!(y.2==.cell)&&(!(y.2==.local)||scope.names.lookup y.1==some .local)&&(!(y.2==.free)||(a.names.lookup y.1==some .cell||a.names.lookup y.1==some .free)))&&N0.zipIdx.all λp=>!(scope.names.lookup p.1==some .local)||ds.contains p.2
def vA{N0:Sc}{ds f:Sf}{a scope:Scope}{k:Nat}(ok:rK N0 ds a scope=true)(c:(f.all λj=>ds.contains j||decide (N0.length<=j))=true):(∀d:St,d.length=N0.length->∀j∈f,∀v,(fX ds k d)[j]?≠some (some v))/\scope.kind=.function/\(∀y∈scope.names,y.2≠.cell)/\(∀y∈scope.names,y.2=.local->scope.names.lookup y.1=some .local)/\(∀y∈scope.names,y.2=.free->a.names.lookup y.1=some .cell\/a.names.lookup y.1=some .free)/\(∀i x,N0[i]?=some x->scope.names.lookup x=some .local->i∈ds):=by
 unfold rK at ok;rw[o0,o0]at ok;obtain⟨⟨h1,h2⟩,h3⟩:=ok;have h2:=List.all_eq_true.mp h2;have h3:=List.all_eq_true.mp h3;have c:=List.all_eq_true.mp c;refine⟨?_,(by simpa using h1),?_,?_,?_,?_⟩
 ·intro d m j hm v e;obtain⟨_,g,n⟩:=Bj e;have:=c j hm;rw[Bool.or_eq_true]at this;rcases this with z|z
  ·exact g (by simpa using z)
  ·have:=rm z;lia
 ·intro y b e;have:=h2 y b;rw[o0,o0]at this;have z:=this.1.1;rw[e]at z;exact absurd z (by decide)
 ·intro y b e;have:=h2 y b;rw[o0,o0]at this;have z:=this.1.2;rw[e]at z;simpa using z
 ·intro y b e;have:=h2 y b;rw[o0,o0]at this;have z:=this.2;rw[e]at z;simpa using z
 ·intro i x h l;have:=h3 (x,i) (by rw[List.mem_zipIdx_iff_getElem?];exact h);rw[Bool.or_eq_true]at this;rcases this with z|z
  ·rw[l]at z;exact absurd z (by decide)
  ·simpa using z
def K0(N0 a:Sc)(ds o:Sf)(d:Scope){e h c:Expr}{f:Sd}{scope:Scope}{i:Pos}{p:TI}{g:TG}{tc:TT}{te:TE}(hc:X.calm=true)(l:X.N=N0)(n:X.env.scope=d)(ok:rK N0 ds d scope=true)(q:(o.all λj=>ds.contains j||decide (N0.length<=j))=true)(hg:GK g o)(hi:PI X h c p)(r:∀cl C s₀ H₀ ex,PG (X.comp scope (N0++a) cl C s₀ H₀ ex) h g/\Le (X.comp scope (N0++a) cl C s₀ H₀ ex) f tc/\PE (X.comp scope (N0++a) cl C s₀ H₀ ex) e te)(s:∀x,foldedSetIterable c X.env x=pure x:=by intro _;rfl):PE X (.ListComp e [⟨h,c,f,0⟩] scope i) (uj p g ds a.length tc te):=by subst l;subst n;obtain⟨h1,h2,h3,h4,h5,h6⟩:=vA ok q;exact Kd (X.N++a) ds a.length hc hi r hg h1 h2 h3 h4 h5 rfl rfl h6 s
def ID(N0 a:Sc)(ds u:Sf)(f:Scope){i:Nat}{x:Str}{d e:Pos}{h o c:Expr}{l:Sd}{scope:Scope}{n:Pos}{v:TI}{g:TG}{tc:TT}{te:TE}(hc:X.calm=true)(p:X.N=N0)(q:X.env.scope=f)(ok:rK N0 ds f scope=true)(y:(u.all λj=>ds.contains j||decide (N0.length<=j))=true)(hg:GK g u)(hi:PI X o c v)(z:∀cl C s₀ H₀ ex,PG (X.comp scope (N0++a) cl C s₀ H₀ ex) o g/\Le (X.comp scope (N0++a) cl C s₀ H₀ ex) l tc/\PE (X.comp scope (N0++a) cl C s₀ H₀ ex) h te)(r:N0.Nodup)(s:N0[i]?=some x:=by rfl)(w:f.names.lookup x=some .local:=by rfl)(t:swapsWith (.ListComp h [⟨o,c,l,0⟩] scope n) (some (.Name x d)) e.line X.env=pure true:=by rfl)(A:∀x,foldedSetIterable c X.env x=pure x:=by intro _;rfl):PS X (.Assign [.Name x d] (.ListComp h [⟨o,c,l,0⟩] scope n) e) (BY (uj v g ds a.length tc te) (kX i)):=by subst p;subst q;obtain⟨h1,h2,h3,h4,h5,h6⟩:=vA ok y;exact J5 (X.N++a) ds a.length r s (.inl w) (.inr w) t hc hi z hg h1 h2 h3 h4 h5 rfl rfl h6 A
end
end L2
namespace L2
open PySem PySem.Spec PyProof.Rows
section
variable{X:Cx}
def Bw:cO X (.builtin "isinstance") (λa H Q=>∃x T t b,a=[x,.ty T]/\mI X.K H x t/\PySem.W.kitOne X.K t (.type T)=some b/\Q (.bl b) H):=by intro c s g H a i Q I r h;obtain⟨x,T,t,b,rfl,ty,e,q⟩:=h;obtain⟨u,d,rfl,f,rt⟩:=xm r;obtain rfl:d=Value.type T:=rt;exact E7 I f ty e λtk=>⟨.bl b,H,I.tok tk,rfl,q⟩
def xW{bs:List Bool}{a:Sa}(r:a9 (bs.map V.bl) a){i:Nat}{v:Value}(h:a[i]?=some v):∃b,bs[i]?=some b/\v=.bool b:=by
 have d:=r.length;rw[c_]at d;have hi:i<a.length:=(d_.mp h).1;have c:bs[i]?=some bs[i]:=by simp
 obtain⟨u,h1,h2⟩:=r.get (i:=i) (x:=.bl bs[i]) (by rw[j_,c];rfl);rw[h]at h1;cases h1;exact⟨bs[i],c,h2⟩
def EC{bs:List Bool}:((List.range bs.length).all λi=>bs.getD i true)=bs.all id:=by induction bs with|nil=>rfl|cons b r a=>
  rw[ol,List.range_succ_eq_map,Qz,List.all_map,Qz]
  congr 1
def EB{bs:List Bool}:((List.range bs.length).any λi=>bs.getD i true)=bs.any id:=by induction bs with|nil=>rfl|cons b r a=>
  rw[ol,List.range_succ_eq_map,D_,List.any_map,D_]
  congr 1
def HN{A:Around}(h:A.handled=none):A.in1.handled=none:=h
def FC(hc:X.calm=true):cO X (.builtin "all") (λg H Q=>∃(p:Addr)(bs:List Bool),g=[.ref p]/\aX X.K H p (bs.map V.bl)/\Q (.bl (bs.all id)) H):=by
 intro j s A H g B Q I r h;obtain⟨p,bs,rfl,m,q⟩:=h;obtain⟨u,rfl,t⟩:=jJ r;cases t;obtain⟨a,k,pl,C⟩:=I.list m;refine call_all_walk (K_ pl.isList ?_);have d:p≠s.heap.objs.size:=l_ (by obtain⟨o,n,e,_⟩:=pl;exact kl e);have l:=k.length;rw[c_]at l;refine⟨s.heap.objs.size,_,_,_,_,_,λi=>bs.getD i true,rfl,Walks.list (HN (I.ok.hd hc)) s.heap.objs.size p d a.toArray,⟨⟨_,g_ _ rfl,rfl,rfl⟩,?_⟩,?_,?_⟩
 ·exact pl.isList.push _
 ·intro i v w x D f c;have f:a.toArray[i]?=some v:=f;obtain⟨b,y,rfl⟩:=xW k (i:=i) (v:=v) (by simpa using f);refine r4 ?_;have e:bs.getD i true=b:=by simp[List.getD,y]
  have c:x (bs.getD i true) w:=c;rw[e]at c;exact c
 ·intro h' tk z;have e:((List.range a.toArray.size).all λi=>bs.getD i true)=bs.all id:=by rw[lh,<-l,EC]
  rw[e];exact⟨.bl _,H,I.kept (h':=h') (t':=tk) λb o e=>z b o (by simp[l_ (kl e)]) (b_ _ e),rfl,q⟩
def FB(hc:X.calm=true):cO X (.builtin "any") (λg H Q=>∃(p:Addr)(bs:List Bool),g=[.ref p]/\aX X.K H p (bs.map V.bl)/\Q (.bl (bs.any id)) H):=by
 intro j s A H g B Q I r h;obtain⟨p,bs,rfl,m,q⟩:=h;obtain⟨u,rfl,t⟩:=jJ r;cases t;obtain⟨a,k,pl,C⟩:=I.list m;refine call_any_walk (K_ pl.isList ?_);have d:p≠s.heap.objs.size:=l_ (by obtain⟨o,n,e,_⟩:=pl;exact kl e);have l:=k.length;rw[c_]at l;refine⟨s.heap.objs.size,_,_,_,_,_,λi=>bs.getD i true,rfl,Walks.list (HN (I.ok.hd hc)) s.heap.objs.size p d a.toArray,⟨⟨_,g_ _ rfl,rfl,rfl⟩,?_⟩,?_,?_⟩
 ·exact pl.isList.push _
 ·intro i v w x D f c;have f:a.toArray[i]?=some v:=f;obtain⟨b,y,rfl⟩:=xW k (i:=i) (v:=v) (by simpa using f);refine r4 ?_;have e:bs.getD i true=b:=by simp[List.getD,y]
  have c:x (bs.getD i true) w:=c;rw[e]at c;exact c
 ·intro h' tk z;have e:((List.range a.toArray.size).any λi=>bs.getD i true)=bs.any id:=by rw[lh,<-l,EB]
  rw[e];exact⟨.bl _,H,I.kept (h':=h') (t':=tk) λb o e=>z b o (by simp[l_ (kl e)]) (b_ _ e),rfl,q⟩
def Lh(x:Str):It:=⟨λi _=>i<x.cps.size,λi H y a=>a=H/\∃c,x.cps[i]?=some c/\y=.str ⟨#[c]⟩,λi _=>x.cps.size<=i⟩
def FV{P:Sb}{w:World}{K:R7}{L:Expr}(a:Addr)(x:Str)(t:Tok)(f:String)(hn:["enumerate","zip","dict_itemiterator","dict_reverseitemiterator","odict_iterator","itertools.zip_longest","itertools.pairwise"].contains f=false)(W:∀A:Around,A.handled=none->Walks P w A a [a] [a] x.cps.size (SignAt x) (λi h=>h.IsStrIter a f x t i))(S:∀(A:Around)(i:Nat)(s:Shared)(Q:R8)(E:R8),s.heap.IsStrIter a f x t i->Q (.ref a) s->wpAny (model P w) A (pyIter (.ref a)) Q E s):vK P w K L (Lh x) [a] a (λi h=>i<=x.cps.size/\h.IsStrIter a f x t i)where
 mem:=by simp
 obj:=λi h st b j=>by
  have e:b=a:=by simpa using j
  subst e;obtain⟨_,o,e,c,d⟩:=st;exact⟨o,e,λv z=>by rw[d]at z;cases z⟩
 keep:=λi h h' st k=>by obtain⟨l,o,e,r⟩:=st;exact⟨l,o,k a (by simp) o e,r⟩
 item:=by intro X p q y hc i g s J H E I n st hg;subst p q y;obtain⟨B,f1,f2,f3,C,D⟩:=n a (by simp);refine(W X.A (I.ok.hd hc)).item i s _ _ hg st.2 λv h' tk M m F=>?_;obtain⟨c,u,G,rfl⟩:=M;have I1:aL X g J H {s with heap:=h',toks:=tk}:=I.turned (λb o j e=>F b o (by simpa using j) e) B f1 f3 C D;obtain⟨o,e,N,d⟩:=id m;have O:i<x.cps.size:=hg;exact⟨_,rfl,xJ (s:={s with heap:=h',toks:=tk}) e N d hn ⟨.str ⟨#[c]⟩,H,I1,⟨u,rfl⟩,⟨rfl,c,G,rfl⟩,⟨by omega,m⟩,λb j=>(n b j).1⟩⟩
 done:=by intro X p q y hc i g s J H E I n st hg;subst p q y;obtain⟨B,f1,f2,f3,C,D⟩:=n a (by simp);have e:i=x.cps.size:=Nat.le_antisymm st.1 hg;subst e;exact(W X.A (I.ok.hd hc)).done s _ _ st.2 λh' tk F=>⟨rfl,I.turned (λb o j e=>F b o (by simpa using j) e) B f1 f3 C D⟩
 self:=λA i s Q E st h=>S A i s Q E st.2 h
def PN(a:TE):TI:=λb H R=>a b H λv c=>∃x,v=.str x/\R (Lh x) c
def GR{g l:Expr}{j:TE}(n:PE X l j):PI X g l (PN j):=by
 intro d s k H R I h;refine cq (n d s k H _ I h) λv a⟨y,p,I1,r,u⟩=>?_;obtain⟨x,e,q⟩:=u;subst e;obtain⟨t,rfl⟩:=r;have fin:∀(c:String)(ob:Obj),(["enumerate","zip","dict_itemiterator","dict_reverseitemiterator","odict_iterator","itertools.zip_longest","itertools.pairwise"].contains c=false)->(∀A:Around,A.handled=none->Walks X.prog X.w A a.heap.objs.size [a.heap.objs.size] [a.heap.objs.size] x.cps.size (SignAt x) (λi h=>h.IsStrIter a.heap.objs.size c x t i))->(∀(A:Around)(i:Nat)(s:Shared)(Q:R8)(E:R8),s.heap.IsStrIter a.heap.objs.size c x t i->Q (.ref a.heap.objs.size) s->wpAny (model X.prog X.w) A (pyIter (.ref a.heap.objs.size)) Q E s)->(a.heap.push ob).IsStrIter a.heap.objs.size c x t 0->P1 X d k g R (.ref a.heap.objs.size) {a with heap:=a.heap.push ob}:=λc ob h1 h2 h3 h4=>by
  refine⟨a.heap.objs.size,[a.heap.objs.size],_,Lh x,p,rfl,I1.kept (t':=a.toks) λb o e=>b_ _ e,FV _ x t c h1 h2 h3,⟨n0 _,h4⟩,λb z=>?_,q⟩;have e:b=a.heap.objs.size:=by simpa using z
  subst e;exact I1.fpOk (f_ _) (I1.hok.fresh (f_ _))
 cases m:x.cps.all (·<128)
 ·exact wpAny_pyIter_wide m (fin "str_iterator" _ (by decide) (λA f=>Walks.strWide f _ x t) (λA i s Q E st h=>wpAny_pyIter_striter_wide st h) ⟨_,g_ _ rfl,rfl,rfl⟩)
 ·exact wpAny_pyIter_ascii m (fin "str_ascii_iterator" _ (by decide) (λA f=>Walks.strAscii f _ x t) (λA i s Q E st h=>wpAny_pyIter_striter_ascii st h) ⟨_,g_ _ rfl,rfl,rfl⟩)
def KU{x:Str}{g:TG}{l:TS}{D:ql}{a:St}{H:Hp}(Pv:Nat->St->Hp->Prop)(h0:Pv 0 a H)(o:∀i c a H,x.cps.toList[i]?=some c->Pv i a H->g (.str ⟨#[c]⟩) a H λd j=>l {D with nx:=Pv (i+1),ct:=Pv (i+1),bk:=D.nx} d j)(hd:∀a H,Pv x.cps.toList.length a H->D.nx a H):∃W:Nat->Nat->St->Hp->Prop,(∃m,W 0 m a H)/\∀i m a H,W i m a H->((Lh x).stop i H/\D.nx a H)\/((Lh x).go i H/\∃N:St->Hp->Prop,(∀f h,N f h->∃n,n<m/\W (i+1) n f h)/\∀y h,(Lh x).yld i H y h->g y a h λd j=>l {D with nx:=N,ct:=N,bk:=D.nx} d j):=by
 have k:x.cps.toList.length=x.cps.size:=by simp
 refine⟨λi m a H=>m=x.cps.size-i/\i<=x.cps.size/\Pv i a H,⟨x.cps.size,by simp,n0 _,h0⟩,?_⟩;rintro i m a H⟨rfl,hi,p⟩
 by_cases b:i<x.cps.size
 ·refine .inr ⟨b,Pv (i+1),λf h q=>⟨x.cps.size-(i+1),by omega,rfl,b,q⟩,λy h r=>?_⟩;obtain⟨e,c,hc,rfl⟩:=r;subst e;exact o i c a _ (by simpa using hc) p
 ·have e:i=x.cps.size:=by omega
  subst e;exact .inl ⟨f_ _,hd a H (by rw[k];exact p)⟩
def Mt:V->List V->Hp->VK->Prop:=λx a H Q=>∃z y i r,x=.str z/\a=[.str y]/\Builtin.Str.occurrences z y 0 z.length 1=i::r/\Q (.int (i:Nat)) H
def Hg:P2 X "str.index" Mt:=by intro a s e H x f v g Q I b c h;obtain⟨z,y,i,r,rfl,rfl,d,q⟩:=h;obtain⟨t,rfl⟩:=b;obtain⟨u,rfl,j,rfl⟩:=jJ c;exact SC.index d ⟨.int _,H,I.tok _,⟨_,rfl⟩,q⟩
end
end L2
namespace L2
open PySem PySem.Spec PyProof.Rows
section
variable{X:Cx}(K:R7)(c:X.K=K)
include c
def aH:cO X (.builtin "len") (λa H Q=>∃x n,a=[x]/\O4 K x H n/\Q (.int n) H):=by subst c;exact IJ
def i3:cO X (.builtin "isinstance") (λa H Q=>∃x T t b,a=[x,.ty T]/\mI K H x t/\PySem.W.kitOne K t (.type T)=some b/\Q (.bl b) H):=by subst c;exact Bw
def i4(hc:X.calm=true):cO X (.builtin "all") (λa H Q=>∃(p:Addr)(bs:List Bool),a=[.ref p]/\aX K H p (bs.map V.bl)/\Q (.bl (bs.all id)) H):=by subst c;exact FC hc
def rN(hc:X.calm=true):cO X (.builtin "any") (λa H Q=>∃(p:Addr)(bs:List Bool),a=[.ref p]/\aX K H p (bs.map V.bl)/\Q (.bl (bs.any id)) H):=by subst c;exact FB hc
def HI:NK X (Ms K):=by subst c;exact KJ
def KI:NK X (Mr K):=by subst c;exact MU
def ur:NH X (Ol K):=by subst c;exact JZ
def Dw:NH X (Oj K):=by subst c;exact Mm
def qN:lV X (compareOp .In) (Pf K false):=by subst c;exact EH
def AA:lV X (binaryOp .Add) (Lp K):=by subst c;exact Kh
def Dj:cO X (.type "list") (λd H Q=>∃p a,d=[.ref p]/\(aX K H p a\/aW K H p a)/\∀l,H l=none->Q (.ref l) (aA H l (.lst a))):=by subst c;exact zB
def fT:cO X (.type "tuple") (λd H Q=>∃p a,d=[.ref p]/\((aX K H p a/\∀l,H l=none->Q (.ref l) (aA H l (.tup a)))\/(aW K H p a/\Q (.ref p) H))):=by subst c;exact xf
def d8{d l:Expr}{a:TE}(e:PE X l a):PI X d l (Ls K a):=by subst c;exact J9 e
def iV{d l:Expr}{a:TE}(e:PE X l a):PI X d l (OM K a):=by subst c;exact Mx e
def aM{a:Expr}{e:TE}(g:PE X a e)(h:∀d,isTrue a X.env d=(do let v<-d;standAt a.pos;holding [v] (truthy v))):PT X a (λi H Q=>e i H λx f=>∃k,Nl K x f k/\Q k f):=by subst c;exact GO g h
def ij{f:Sd}{k:Nat}{a:Pos}{t:NG}{n:Nat}(hc:X.calm=true)(h:Np X f t)(hn:(assignEach f X.env).length=n:=by rfl)(d:(assignEach f X.env).findIdx? (·.1)=none:=by rfl):PG X (.Tuple f k a) (MZ K n t):=by subst c;exact Mz hc h hn d
variable{o e:Expr}{f:Sd}{j:TE}{t:TA}{g:Str}{i d:Pos}{T id:String}{r:V->List V->Hp->VK->Prop}
def jk(q:PlainAttrs T)(slot:Slot T g id)(p:typeOf (.builtin id)=pure (.type "method_descriptor"))(hm:P2 X id r)(s:PE X o j)(u:PA X (e::f) t)(h:attributeBase o g X.env (eval o X.env)=eval o X.env:=by rfl)(n:((backTo d (starEach (e::f) X.env)).all (λx=>!x.1)&&(backToKw d (keywordEach [] X.env)).all (λx=>x.1.isSome)&&decide ((e::f).length+([]:List Keyword).length+(if([]:List Keyword).isEmpty then 0 else 1)<30))=true:=by rfl)(l:(i.endLine==d.line)=true:=by rfl)(v:starEach (e::f) X.env=(false,eval e X.env)::starEach f X.env:=by rfl)(a:(backTo d (starEach f X.env)).any (·.1)=false:=by rfl):PE X (.Call (.Attribute o g i) (e::f) [] d) (tBM K T r j t):=by subst c;exact Ot q slot p hm s u h n l v a
end
end L2
namespace L2
open PySem PySem.Spec PyProof.Rows
def aI:bootBuiltins "len"=some (.builtin "len"):=by decide+kernel
def IM:bootBuiltins "max"=some (.builtin "max"):=by decide+kernel
def vF:bootBuiltins "min"=some (.builtin "min"):=by decide+kernel
def aV:bootBuiltins "isinstance"=some (.builtin "isinstance"):=by decide+kernel
def kY:bootBuiltins "all"=some (.builtin "all"):=by decide+kernel
def vH:bootBuiltins "any"=some (.builtin "any"):=by decide+kernel
def BB:bootBuiltins "divmod"=some (.builtin "divmod"):=by decide+kernel
def sG:bootBuiltins "sorted"=some (.builtin "sorted"):=by decide+kernel
def IL:bootBuiltins "sum"=some (.builtin "sum"):=by decide+kernel
def BA:bootBuiltins "int"=some (.type "int"):=by decide+kernel
def Bz:bootBuiltins "str"=some (.type "str"):=by decide+kernel
def xV:bootBuiltins "bool"=some (.type "bool"):=by decide+kernel
def xU:bootBuiltins "list"=some (.type "list"):=by decide+kernel
def bZ:bootBuiltins "tuple"=some (.type "tuple"):=by decide+kernel
def vE:bootBuiltins "set"=some (.type "set"):=by decide+kernel
def vG:bootBuiltins "enumerate"=some (.type "enumerate"):=by decide+kernel
def IK:bootBuiltins "zip"=some (.type "zip"):=by decide+kernel
def xh:bootBuiltins "reversed"=some (.type "reversed"):=by decide+kernel
section
variable{X:Cx}
def jP(hg:Gl X x)(hm:X.mg x=none)(a:bootBuiltins x=some (.type T))(hn:x≠"__name__":=by decide)(hd:(x==("__debug__":Str))=false:=by decide):PE X (.Name x c) (tC (.ty T)):=Ke hg hm a rfl hn hd
def cB(hm:∃u,X.mg x=some u/\aU v u)(hg:Gl X x)(hd:(x==("__debug__":Str))=false:=by decide):PE X (.Name x a) (tC v):=by obtain⟨u,h1,h2⟩:=hm;exact Dz hg h1 h2 hd
end
def de{K:R7}{A B:String}{b:Bool}(h:(if((Value.type A)==.type B)=true then some true else if PySem.W.kitMeta B=true then(fastBuiltinMro A).map (·.contains (.type B))else none)=some b):PySem.W.kitOne K (.type A) (.type B)=some b:=h
def kS{i j:Int}{A B:Prop}(h1:i=j->A)(h2:i≠j->B):if decide (V.int i=V.int j)=true then A else B:=by
 by_cases h:i=j
 ·subst h;rw[nn rfl];exact bD (h1 rfl)
 ·rw[no (λe=>h (V.int.inj e))];exact bV (h2 h)
def ko{c:Prop}[Decidable c]{A B:Prop}(h1:c->A)(h2:¬c->B):if decide c=true then A else B:=by
 by_cases h:c
 ·rw[nn h];exact bD (h1 h)
 ·rw[no h];exact bV (h2 h)
def zf{b:Bool}{A B:Prop}(h1:b=true->A)(h2:b=false->B):if b=true then A else B:=by cases b with|true=>exact bD (h1 rfl)|false=>exact bV (h2 rfl)
def aq(h:F (a.set j (some x)) H):kX j x a H F:=h
def j3(h:F true H):NX a H F:=h
def MJ(h:aA H a o b=none):b≠a/\H b=none:=by
 by_cases e:b=a
 ·rw[e,ae]at h;cases h
 ·rw[ak e]at h;exact⟨e,h⟩
def bu(i:Int){n:Int}(h:0<n):0<=i%n/\i%n<n:=⟨I_ _ (by lia),z_ _ h⟩
def MM(x:Int):Builtin.bitAnd x 2147483647=x%2147483648:=PySem.W.kbt_mask x 31
end L2
namespace L2
open PySem PySem.Spec PyProof.Rows
section
variable{X:Cx}
def PB:V->Option Int->Option Int->Hp->VK->Prop:=λx lo hi H Q=>∃z,x=.str z/\z.length<=sizeLine/\Q (.str (Txt.slice z lo hi)) H
def yq:NH X PB:=by intro a s g H x v n o lo hi sl Q I m b pl d h;obtain⟨z,rfl,c,q⟩:=h;obtain⟨t,rfl⟩:=m;refine⟨"str",_,F.slot_str_getitem.lookup,typeIs_str _ _ _,?_⟩;have fin:∀(e:Tok)(k:Nat),EP X a g Q (.str (Txt.slice z lo hi) e) {s with toks:=k}:=λe k=>⟨.str _,H,I.tok k,⟨_,rfl⟩,q⟩;cases pl with
 |none=>cases d with|none=>exact Ql (l:=none) (u:=none) (st:=none) b rfl (Rf ⟨n7 (Txt.slice_le z _ _) c,fin⟩)|int j u=>exact Ql (l:=none) (u:=some (j,u)) (st:=none) b rfl (Rf ⟨n7 (Txt.slice_le z _ _) c,fin⟩)
 |int i f=>cases d with|none=>exact Ql (l:=some (i,f)) (u:=none) (st:=none) b rfl (Rf ⟨n7 (Txt.slice_le z _ _) c,fin⟩)|int j u=>exact Ql (l:=some (i,f)) (u:=some (j,u)) (st:=none) b rfl (Rf ⟨n7 (Txt.slice_le z _ _) c,fin⟩)
end
end L2
namespace L2
open PySem PySem.Spec PyProof.Rows
def LC{c:Bool}{t u:TS}{D:ql}{a:St}{H:Hp}(J:St->Hp->Prop)(h1:∀a H,J a H->D.nx a H)(h2:∀N:St->Hp->Prop,(∀a H,J a H->N a H)->if c=true then t {D with nx:=N} a H else u {D with nx:=N} a H):if c=true then t D a H else u D a H:=h2 D.nx h1
def Cm(h:D.nx a H):zZ D a H:=h
def aj(h:am c H)(hn:H a=none):am c (aA H a o):=λb d f=>by have e:=h b d f;rw[ak (aD e hn)];exact e
def BE(h0:0<=i)(h1:i<xs.length):∃c,we xs i=some c/\c∈xs:=by refine⟨xs[i.toNat]'(by lia),?_,Qx _⟩;unfold we KL;rw[kw h0,kw h1];show xs[i.toNat]?=_;rw[h_ (by lia)]
def c8{n:Nat}(h:n<=65536):n<=sizeLine:=by rw[lm];lia
mutual
inductive FM(K:R7)(H:Hp):V->PyData->Prop|non:FM K H .non .none|bl(b:Bool):FM K H (.bl b) (.bool b)|int(i:Int):FM K H (.int i) (.int i)|str(x:Str):FM K H (.str x) (.str x)|lst{a:Addr}{xs:List V}{ds:List PyData}:aX K H a xs->IsPs K H xs ds->FM K H (.ref a) (.list ds)|tup{a:Addr}{xs:List V}{ds:List PyData}:aW K H a xs->IsPs K H xs ds->FM K H (.ref a) (.tuple ds)
inductive IsPs(K:R7)(H:Hp):List V->List PyData->Prop|nil:IsPs K H [] []|cons{v:V}{d:PyData}{vs:List V}{ds:List PyData}:FM K H v d->IsPs K H vs ds->IsPs K H (v::vs) (d::ds)
end
section
variable{X:Cx}{c:R9}{f:St}{H:Hp}{s:Shared}
mutual
theorem FM.reads(I:aL X c f H s):∀{v:V}{d:PyData}{u:Value},FM X.K H v d->aU v u->∃g,Reads s.heap u d g|_,_,_,.non,r=>by obtain rfl:_=Value.none:=r;exact⟨_,.none⟩|_,_,_,.bl b,r=>by obtain rfl:_=Value.bool b:=r;exact⟨_,.bool b⟩|_,_,_,.int i,r=>by obtain⟨t,rfl⟩:=r;exact⟨_,.int i t⟩|_,_,_,.str x,r=>by obtain⟨t,rfl⟩:=r;exact⟨_,.str x t⟩|_,_,_,.lst (a:=a) h j,r=>by obtain rfl:_=Value.ref a:=r;obtain⟨k,l,⟨o,n,e,hc,_,hd⟩,_⟩:=I.list h;obtain⟨g,q⟩:=IsPs.reads I j l;exact⟨_,.list e hc hd (by simpa using q)⟩|_,_,_,.tup (a:=a) h j,r=>by obtain rfl:_=Value.ref a:=r;obtain⟨k,l,⟨o,e,hc,n,hd⟩,_⟩:=I.tuple h;obtain⟨g,q⟩:=IsPs.reads I j l;exact⟨_,.tuple e hc hd (by simpa using q)⟩
theorem IsPs.reads(I:aL X c f H s):∀{a:List V}{ds:List PyData}{d:Sa},IsPs X.K H a ds->a9 a d->∃e,ReadsAll s.heap d ds e|_,_,_,.nil,r=>by cases r;exact⟨_,.nil⟩|_,_,_,.cons h b,r=>by cases r with|cons g r2=>obtain⟨e,q⟩:=FM.reads I h g;obtain⟨bs,p⟩:=IsPs.reads I b r2;exact⟨_,.cons q p⟩
end
end
section
variable{X:Cx}
def Op(K:R7):R2:=λx y H Q=>∃d e,FM K H x d/\FM K H y e/\SeqAt.shaped d=true/\SeqAt.shaped e=true/\Q (.bl (PyData.eqv d e)) H
def ME(c:X.A.units+64<cLine):lV X (compareOp .Eq) (Op X.K):=by intro a s i H x y v u Q I b f h;obtain⟨d,e,h1,h2,h3,h4,q⟩:=h;obtain⟨j,g⟩:=h1.reads I b;obtain⟨bs,r2⟩:=h2.reads I f;exact eq_dataH g r2 h3 h4 c ⟨.bl _,H,I,rfl,q⟩
def PP{A:Around}{k:Nat}(a:eK k A):A.units+64<cLine:=by have:=a.un;lia
def Kg(K:R7)(a:X.K=K)(c:X.A.units+64<cLine):lV X (compareOp .Eq) (Op K):=by subst a;exact ME c
def IH(hc:X.calm=true):cO X (.builtin "sum") (λa H Q=>∃(p:Addr)(ns:Sh),a=[.ref p]/\(aX X.K H p (ns.map V.int)\/aW X.K H p (ns.map V.int))/\Q (.int ns.sum) H):=by
 intro j s o H a t Q I r h;obtain⟨p,ns,rfl,d,q⟩:=h;obtain⟨u,rfl,l⟩:=jJ r;cases l;have k:∀{b:Sa},a9 (ns.map V.int) b->∃a:Array (Int×Tok),b.toArray=intItems a/\preSum (numAt a) a.size=ns.sum:=λf=>by
  have hi:IntsAre _ ns:=CW f;obtain⟨a,c⟩:=hi.allInts.items;refine⟨a,c,?_⟩;have m:ns=a.toList.map (·.1):=by rw[<-nums_intItems,<-c];exact hi.numsOf.symm
  rw[preSum_eq,mu (by simp),m]
 rcases d with d|d
 ·obtain⟨b,f,pl,n⟩:=I.list d;obtain⟨a,c,e⟩:=k f;refine sum_intListG (I.ok.hd hc) (xs:=a) (c▸pl.isList) λh' tk g i=>?_;rw[e];exact⟨.int _,H,I.kept (h':=h') (t':=tk) i,⟨_,rfl⟩,q⟩
 ·obtain⟨b,f,pt,n⟩:=I.tuple d;obtain⟨a,c,e⟩:=k f;refine PySem.W.ktm_sumG (I.ok.hd hc) (xs:=a) (c▸pt) λh' tk g i=>?_;rw[e];exact⟨.int _,H,I.kept (h':=h') (t':=tk) i,⟨_,rfl⟩,q⟩
def Fu(K:R7)(a:X.K=K)(hc:X.calm=true):cO X (.builtin "sum") (λc H Q=>∃(p:Addr)(ns:Sh),c=[.ref p]/\(aX K H p (ns.map V.int)\/aW K H p (ns.map V.int))/\Q (.int ns.sum) H):=by subst a;exact IH hc
end
section
variable{X:Cx}
end
def bR(h:am d H)(hn:d a=none):am d (aA H a o):=λb f c=>by
 have:b≠a:=λe=>by rw[e,hn]at c;cases c
 rw[ak this];exact h b f c
def ao{a:Type}{c:List a}{k:Nat}{v:a}(h:c[k]?=some v):we c (k:Int)=some v:=by have b:=(d_.mp h).1;unfold we KL;rw[kw (by lia),kw (by lia)];exact h
def m7{ns:Sh}{k:Int}(h0:0<=k)(h1:k<ns.length):we (ns.map V.int) k=some (.int (ns.getD k.toNat 0)):=by obtain⟨n,rfl⟩:∃n:Nat,k=n:=⟨k.toNat,by lia⟩;refine ao ?_;rw[j_,h_ (by lia)];simp only[ot,List.getD,h_ (show n<ns.length by lia)];rfl
def KK{n:Nat}{k:Int}(h0:0<=k)(h1:k<n):KL n k=some k.toNat:=by unfold KL;rw[kw h0,kw h1]
def AX(ns:Sh)(j:Nat)(v:Int):(ns.map V.int).set j (.int v)=(ns.set j v).map V.int:=by rw[List.map_set]
def am.tseq{K:R7}{H c:Hp}{a:Addr}{d:List V}(e:am H c)(h:aW K H a d):aW K c a d:=by
 rcases h with h|h
 ·rcases h with h|⟨o,h⟩
  ·exact .inl (.inl (e _ _ h))
  ·exact .inl (.inr ⟨o,e _ _ h⟩)
 ·exact .inr h
@[irreducible]def c5:Int:=10^(30:Int).toNat
def zY:c5=10^(30:Int).toNat:=by unfold c5;rfl
def xq:1000000000000000000<c5:=by rw[zY];decide+kernel
section
variable{X:Cx}
def uU:lV X (binaryOp .Pow) (λx y H Q=>x=.int 10/\y=.int 30/\Q (.int c5) H):=by intro a s b H x y v u Q I c d h;obtain⟨rfl,rfl,q⟩:=h;rw[zY]at q;exact MD a s b H _ _ v u Q I c d ⟨10,30,rfl,rfl,⟨by decide,by decide,by decide⟩,q⟩
end
def lf{n i:Nat}{P:Prop}(hi:i<n)(h:P):∃a,a<n-i/\a=n-(i+1)/\i+1<=n/\P:=⟨_,by lia,rfl,hi,h⟩
def eO{K:R7}{lo:Int}{n:Nat}{g:TG}{ds:Sf}{k:Nat}{tc:TT}{te:TE}{r:St}{s:Hp}{D:Addr}{F:Hp->Prop}(Pv:Nat->List V->Hp->Prop)(h0:Pv 0 [] (aA s D (.lst [])))(t:∀i a c,i<n->Pv i a c->g (.int (lo+i)) (fX ds k r) c λd o=>tc d o λb h=>if b=true then te d h λy j=>j D=some (.lst a)/\a.length<sizeLine/\∃f,f<n-i/\f=n-(i+1)/\i+1<=n/\Pv (i+1) (a++[y]) (aA j D (.lst (a++[y])))else∃f,f<n-i/\f=n-(i+1)/\i+1<=n/\Pv (i+1) a h)(hd:∀a c,Pv n a c->F c):∃W:Nat->Nat->List V->Hp->Prop,(∃m,W 0 m [] (aA s D (.lst [])))/\∀i m a c,W i m a c->((Je lo n).stop i c/\F c)\/((Je lo n).go i c/\∀x q,(Je lo n).yld i c x q->g x (fX ds k r) q λd o=>tc d o λb h=>if b=true then te d h λy j=>j D=some (.lst a)/\a.length<sizeLine/\∃f,f<m/\W (i+1) f (a++[y]) (aA j D (.lst (a++[y])))else∃f,f<m/\W (i+1) f a h):=by
 refine⟨λi m a c=>m=n-i/\i<=n/\Pv i a c,⟨_,rfl,n0 _,h0⟩,?_⟩;rintro i m a c⟨rfl,hi,p⟩
 by_cases l:i<n
 ·refine .inr ⟨l,λx q y=>?_⟩;obtain⟨e,y⟩:=y;subst e y;exact t i a _ l p
 ·have e:i=n:=by lia
  subst e;exact .inl ⟨f_ _,hd a c p⟩
def rJ{K:R7}{a:Addr}{xs:List V}{g:TG}{ds:Sf}{k:Nat}{tc:TT}{te:TE}{s:St}{t:Hp}{D:Addr}{F:Hp->Prop}(Pv:Nat->List V->Hp->Prop)(h0:Pv 0 [] (aA t D (.lst [])))(u:∀i c d,i<=xs.length->Pv i c d->aX K d a xs)(v:∀i x c d,xs[i]?=some x->Pv i c d->g x (fX ds k s) d λf n=>tc f n λb j=>if b=true then te f j λy l=>l D=some (.lst c)/\c.length<sizeLine/\∃h,h<xs.length-i/\h=xs.length-(i+1)/\i+1<=xs.length/\Pv (i+1) (c++[y]) (aA l D (.lst (c++[y])))else∃h,h<xs.length-i/\h=xs.length-(i+1)/\i+1<=xs.length/\Pv (i+1) c j)(hd:∀c d,Pv xs.length c d->F d):∃W:Nat->Nat->List V->Hp->Prop,(∃m,W 0 m [] (aA t D (.lst [])))/\∀i m c d,W i m c d->((LH K a).stop i d/\F d)\/((LH K a).go i d/\∀x o,(LH K a).yld i d x o->g x (fX ds k s) o λf n=>tc f n λb j=>if b=true then te f j λy l=>l D=some (.lst c)/\c.length<sizeLine/\∃h,h<m/\W (i+1) h (c++[y]) (aA l D (.lst (c++[y])))else∃h,h<m/\W (i+1) h c j):=by
 refine⟨λi m c d=>m=xs.length-i/\i<=xs.length/\Pv i c d,⟨_,rfl,n0 _,h0⟩,?_⟩;rintro i m c d⟨rfl,hi,p⟩;have q:=u i c d hi p
 by_cases r:i<xs.length
 ·refine .inr ⟨⟨xs,xs[i],q,by simp[r]⟩,λx o y=>?_⟩;obtain⟨e,y⟩:=y;subst e;exact v i x c _ (y xs q) p
 ·have e:i=xs.length:=by lia
  subst e;exact .inl ⟨⟨xs,q,f_ _⟩,hd c d p⟩
def iy{K:R7}{a:Addr}{xs:List V}{g:TG}{ds:Sf}{k:Nat}{tc:TT}{te:TE}{s:St}{t:Hp}{D:Addr}{F:Hp->Prop}(Pv:Nat->List V->Hp->Prop)(h0:Pv 0 [] (aA t D (.lst [])))(u:∀i c d,i<=xs.length->Pv i c d->aW K d a xs)(v:∀i x c d,xs[i]?=some x->Pv i c d->g x (fX ds k s) d λf n=>tc f n λb j=>if b=true then te f j λy l=>l D=some (.lst c)/\c.length<sizeLine/\∃h,h<xs.length-i/\h=xs.length-(i+1)/\i+1<=xs.length/\Pv (i+1) (c++[y]) (aA l D (.lst (c++[y])))else∃h,h<xs.length-i/\h=xs.length-(i+1)/\i+1<=xs.length/\Pv (i+1) c j)(hd:∀c d,Pv xs.length c d->F d):∃W:Nat->Nat->List V->Hp->Prop,(∃m,W 0 m [] (aA t D (.lst [])))/\∀i m c d,W i m c d->((LG K a).stop i d/\F d)\/((LG K a).go i d/\∀x o,(LG K a).yld i d x o->g x (fX ds k s) o λf n=>tc f n λb j=>if b=true then te f j λy l=>l D=some (.lst c)/\c.length<sizeLine/\∃h,h<m/\W (i+1) h (c++[y]) (aA l D (.lst (c++[y])))else∃h,h<m/\W (i+1) h c j):=by
 refine⟨λi m c d=>m=xs.length-i/\i<=xs.length/\Pv i c d,⟨_,rfl,n0 _,h0⟩,?_⟩;rintro i m c d⟨rfl,hi,p⟩;have q:=u i c d hi p
 by_cases r:i<xs.length
 ·refine .inr ⟨⟨xs,xs[i],q,by simp[r]⟩,λx o y=>?_⟩;obtain⟨e,y⟩:=y;subst e;exact v i x c _ (y xs q) p
 ·have e:i=xs.length:=by lia
  subst e;exact .inl ⟨⟨xs,q,f_ _⟩,hd c d p⟩
def IC{K:R7}{z:Str}{g:TG}{ds:Sf}{k:Nat}{tc:TT}{te:TE}{r:St}{s:Hp}{D:Addr}{F:Hp->Prop}(Pv:Nat->List V->Hp->Prop)(h0:Pv 0 [] (aA s D (.lst [])))(t:∀i c a d,z.cps.toList[i]?=some c->Pv i a d->g (.str ⟨#[c]⟩) (fX ds k r) d λf n=>tc f n λb j=>if b=true then te f j λy l=>l D=some (.lst a)/\a.length<sizeLine/\∃h,h<z.cps.toList.length-i/\h=z.cps.toList.length-(i+1)/\i+1<=z.cps.toList.length/\Pv (i+1) (a++[y]) (aA l D (.lst (a++[y])))else∃h,h<z.cps.toList.length-i/\h=z.cps.toList.length-(i+1)/\i+1<=z.cps.toList.length/\Pv (i+1) a j)(hd:∀a d,Pv z.cps.toList.length a d->F d):∃W:Nat->Nat->List V->Hp->Prop,(∃m,W 0 m [] (aA s D (.lst [])))/\∀i m a d,W i m a d->((Lh z).stop i d/\F d)\/((Lh z).go i d/\∀x o,(Lh z).yld i d x o->g x (fX ds k r) o λf n=>tc f n λb j=>if b=true then te f j λy l=>l D=some (.lst a)/\a.length<sizeLine/\∃h,h<m/\W (i+1) h (a++[y]) (aA l D (.lst (a++[y])))else∃h,h<m/\W (i+1) h a j):=by
 refine⟨λi m a d=>m=z.cps.toList.length-i/\i<=z.cps.toList.length/\Pv i a d,⟨_,rfl,n0 _,h0⟩,?_⟩;rintro i m a d⟨rfl,hi,p⟩;have v:z.cps.toList.length=z.cps.size:=by simp
 by_cases q:i<z.cps.size
 ·refine .inr ⟨q,λy o u=>?_⟩;obtain⟨e,c,hc,rfl⟩:=u;subst e;exact t i c a _ (by simpa using hc) p
 ·have e:i=z.cps.toList.length:=by lia
  subst e;exact .inl ⟨by show z.cps.size<=_;lia,hd a d p⟩
section
variable{X:Cx}
end
def HK{i j:Str}{A B:Prop}(h1:i=j->A)(h2:i≠j->B):if decide (V.str i=V.str j)=true then A else B:=by
 by_cases h:i=j
 ·subst h;rw[nn rfl];exact bD (h1 rfl)
 ·rw[no (λe=>h (V.str.inj e))];exact bV (h2 h)
end L2
namespace L2
open PySem PySem.Spec PyProof.Rows
abbrev be(led:Bool):Obj:={cls:=.type "set",dict:=none,data:=.set #[] 0 (.fresh 0 0 led)}
def lX{a:Type}[BEq a](c:Nat->a)(i:Nat):List a:=((List.range i).map c).foldl step_dedup []
section
variable{a:Type}[DecidableEq a][BEq a][LawfulBEq a]
def mW(c:Nat->a)(i:Nat):lX c (i+1)=step_dedup (lX c i) (c i):=by show((List.range (i+1)).map c).foldl step_dedup []=_;rw[Ri,k_,M_];rfl
def AV(c:Nat->a)(i:Nat):(lX c i).length<=i:=by induction i with|zero=>exact f_ 0|succ i b=>
  rw[mW];unfold step_dedup
  split
  ·exact sg b
  ·rw[kt];exact wr b
def Fl(l:List a)(x y:a):(step_dedup l x).any (·==y)=(l.any (·==y)||decide (y=x)):=by
 have hd:decide (y=x)=(x==y):=by
  by_cases e:y=x
  ·rw[nn e,e,t0]
  ·rw[no e];exact(RZ (pv e)).symm
 rw[hd];unfold step_dedup
 split
 ·rename_i h;cases q:(x==y)with|false=>rw[Bool.or_false]|true=>rw[<-eq_of_beq q,h];rfl
 ·rw[List.any_append];simp
def Fk(l:List a)(x:a):(step_dedup l x).length=if l.any (·==x)then l.length else l.length+1:=by
 unfold step_dedup
 by_cases h:l.any (·==x)=true
 ·rw[kw h,kw h]
 ·rw[ku h,ku h,kt];rfl
end
section
variable{prog:Sb}{w:World}{A:Around}{R:Result->Shared->Prop}{c:Type}[DecidableEq c][BEq c][LawfulBEq c]{j a:Addr}{fp g:Sg}{G:Array GenState->Array GenState->Prop}{n:Nat}{P:Nat->Value->Prop}{St:Nat->Shared->Prop}
def jx(e:PySem.KeyKind prog w c)(d:Nat->c)(a:Addr)(i:Nat)(h:Heap):Prop:=h.SetOf e a (λq=>(lX d i).any (·==q)) (lX d i).length
def jx.keep{d:PySem.KeyKind prog w c}{l:Nat->c}{i:Nat}{h h':Heap}(f:jx d l a i h)(k:∀o,h.get? a=some o->h'.get? a=some o):jx d l a i h':=by obtain⟨o,b,m,p,e,r⟩:=f;exact⟨o,b,m,p,k o e,r⟩
def Ag(h:PySem.KeyKind prog w c)(r:WalksS prog w A.in1 j fp g G n P St)(D:a∉fp)(l:Nat->c)(t:∀i v,P i v->h.is (l i) v=true/\v.scannable=true)(E:n+1<scanBound):∀(d i:Nat)(s:Shared),n-i=d->i<=n->St i s->jx h l a i s.heap->(∀p,Moved (a::g) G s p->jx h l a n p.heap->R (.ok (.ret .none)) p)->codeAny (model prog w) A (.builtin "set.update.loop" ⟨[.ref a,.ref j],[]⟩) R s:=by
 have aw:a∉g:=λz=>D (r.sub _ z);have up:∀b∈g,b∈a::g:=λb z=>k4 _ z;intro d
 induction d with|zero=>
  intro i s hd hi st f k;obtain rfl:i=n:=by lia
  refine u1 Qm ?_;rw[x_ y_ _];refine a_ (m:=pyNext (.ref j)) (r.done s _ _ st λp u=>?_);exact e_ (k p (u.mono up) (f.keep λo e=>u.heap a o aw e))|succ d J=>
  intro i s hd hi st f k;have lt:i<n:=by lia
  refine u1 Qm ?_;rw[x_ y_ _];refine a_ (m:=pyNext (.ref j)) (r.item i s _ _ lt st λv p Y x u=>?_);obtain⟨H,K⟩:=t i v Y;have L:jx h l a i p.heap:=f.keep λo e=>u.heap a o aw e;refine a_ (m:=holding [v] (setAdd a v)) (p_ ?_);unfold setAdd;refine p_ (a_ (h.pyHash (k:=l i) H ?_));have M:(lX l i).length+1<scanBound:=by have:=AV l i;lia
  refine wpAny_setAddHashed_of (knd:=h) (s:={p with toks:=p.toks+1}) H K L M λh' I f2=>?_;have f3:jx h l a (i+1) h':=SetOf_congr f2 (λq=>by rw[mW,Fl]) (by rw[mW,Fk]);refine e_ ⟨Qg y_ _,J (i+1) _ (by lia) lt (r.frame _ p _ _ x (r3 _) λb z o e=>?_) f3 λy B N=>?_⟩
  ·exact(I.2 b λC=>D (C▸z)).trans e
  ·refine k y (Moved.trans r.gtrans ((u.mono up).then_heap (r3 _) λb o z e=>?_) B) N;exact(I.2 b λC=>z (C▸mm)).trans e
end
section
variable{prog:Sb}{w:World}{A:Around}{E:R8}{s:Shared}{d:Type}[DecidableEq d][BEq d][LawfulBEq d]
set_option maxHeartbeats 3200000 in
def Af(n:PySem.KeyKind prog w d)(hh:A.handled=none)(P:s.heap.IsList l h)(t:∀i v,h[i]?=some v->n.is (key i) v=true/\v.scannable=true)(x:h.size+1<scanBound)(k:∀(h':Heap)(tk:Nat),jx n key s.heap.objs.size h.size h'->(∀b o,s.heap.get? b=some o->h'.get? b=some o)->Q (.ref s.heap.objs.size) {s with heap:=h',toks:=tk}):wpAny (model prog w) A (call (.type "set") [.ref l]) Q E s:=by
 obtain⟨c,X,I⟩:=F.called_set.mro;have made:=F.called_set.made;have sub:=F.called_set.sub;have Y:=F.called_set.notType;have Z:=F.called_set.canCreate;have tc:=RU (.ref l);refine Q_ (Rg ?_);show wpAny _ _ (callAny (.type "set") _) _ _ _;refine e_ ⟨RC _ (by decide+kernel),u1 RM ?_⟩;rw[RD (Rk "set" [.ref l] []) rfl]
 (repeat(any_goals(first|assumption|wp_step)));skip
 refine t1 (code_set_new_1 (.ref l) (E:=E) (Q₁:=λu s₁=>∃led:Bool,u=.ref s.heap.objs.size/\s₁={s with heap:=s.heap.push (be led)}) λled=>⟨led,rfl,rfl⟩) λr s₁ C=>?_;cases r with|error e=>exact C|ok O=>cases O with
 |ret u=>
   obtain⟨led,rfl,rfl⟩:=C;have K:(s.heap.push (be led)).get? s.heap.objs.size=some (be led):=g_ _ rfl;have ty:Shared.TypeIs {s with heap:=s.heap.push (be led)} (.ref s.heap.objs.size) "set":=⟨_,K,rfl⟩;have li:=F.called_set.init.lookup;have bi:=F.called_set.init.bind (.ref s.heap.objs.size)
   (repeat(any_goals(first|assumption|wp_step)));skip
   refine t1 (Rs (R:=wants (λr m=>r=.none/\∃h' tk,m={s with heap:=h',toks:=tk}/\jx n key s.heap.objs.size h.size h'/\∀b o,s.heap.get? b=some o->h'.get? b=some o) E) F.called_set.init.plain RW (RR ty ?_)) λy m j=>?_
   ·obtain⟨⟨cl,S,dt,sl⟩,e,L,M,N⟩:=id P;simp only at L N;subst L;subst N;have T:(s.heap.push (be led)).get? l=some {cls:=.type "list",dict:=S,data:=.seq h M,slots:=sl}:=b_ _ e;have s1:=F.sub_list_set;have s2:=F.sub_list_frozenset;have ne:(Value.type "list"==Value.type "dict")=false:=by decide
    have z:(s.heap.push (be led)).IsList l h:=⟨_,T,rfl,M,rfl⟩;unfold Builtin.«set.__init__»noKeywords Builtin.Frozenset.updateFrom;generalize D:pyIter=PI;wp_walk;subst D;refine K_ z ?_;refine a_ (Rp ?_);have lt:l<s.heap.objs.size:=kl e;have sz:(s.heap.push (be led)).objs.size=s.heap.objs.size+1:=op ..;refine Ag n ((Walks.list (A:=A.in1.in1.in1) (by simp[hh]) _ l (by rw[sz];exact l_ (r_ lt)) h).toS) (a:=s.heap.objs.size) (by rw[sz];simp only[pw,oi,vr,not_or];exact⟨l_ (rV _),ov lt⟩) key t x (h.size-0) 0 _ (by lia) (n0 _) ⟨⟨_,g_ _ rfl,rfl,rfl⟩,z.push _⟩ ?f0 ?fR
    case f0=>have g:((s.heap.push (be led)).push {cls:=.type "list_iterator",data:=.fields #[.ref l,.int 0 0]}).get? s.heap.objs.size=some (be led):=b_ _ K;exact SetOf_congr ((setObjOf_fresh (knd:=n) led).setOf g (by unfold scanBound;lia)) (λ_=>rfl) rfl
    case fR=>rintro⟨h',U,V,G,H⟩B f;obtain rfl:U=s.gens:=B.gens;obtain rfl:V=s.drawn:=B.drawn;obtain rfl:H=s.os:=B.os;show wpAny _ _ _ _ _ _;refine e_ (show wpAny _ _ (ret Value.none) _ _ _ from e_ ⟨rfl,h',G,rfl,f,λb o q=>?_⟩);have b1:b<s.heap.objs.size:=kl q;exact B.heap b o (by rw[sz];simp only[pw,oi,vr,not_or];exact⟨l_ b1,l_ (r_ b1)⟩) (b_ _ (b_ _ q))
   ·cases y with|error e=>exact j|ok p=>cases p with|ret r=>
      obtain⟨rfl,h',tk,rfl,f,W⟩:=j
      (repeat(any_goals(first|assumption|wp_step)));exact k _ _ f W|_=>exact j.elim
  |_=>exact C.elim
end
end L2
namespace L2
open PySem PySem.Spec PyProof.Rows
instance(priority:=10000)keyBEq:BEq (Sum Int Str):=⟨λa b=>decide (a=b)⟩
instance(priority:=10000)keyLaw:LawfulBEq (Sum Int Str)where
 eq_of_beq:=λh=>rm h
 rfl:=nn rfl
def dd{a:Type}[BEq a](c:List a):List a:=c.foldl step_dedup []
def Cd(a:List c)(d:c):(List.range a.length).map (λi=>a.getD i d)=a:=by refine List.ext_getElem (by simp) λi h1 h2=>?_;simp[List.getD,h_ h2]
def yR[BEq c](a:List c)(d:c):lX (λi=>a.getD i d) a.length=dd a:=by unfold lX dd;rw[Cd]
abbrev Ah(P:Sb)(w:World)(q:Addr)(S:cg->Bool)(n:Nat):HO:=.ext λh=>h.SetOf (aK P w) q S n
section
variable{X:Cx}
def ze(r:aU (kV k) v):nH k v=true/\v.scannable=true:=by cases k with|inl i=>obtain⟨t,rfl⟩:=r;exact⟨xH i t,rfl⟩|inr x=>obtain⟨t,rfl⟩:=r;exact⟨xG x t,rfl⟩
def II(hc:X.calm=true):cO X (.type "set") (λd H Q=>∃(p:Addr)(a:List cg),d=[.ref p]/\aX X.K H p (a.map kV)/\a.length<4000/\∀q,H q=none->Q (.ref q) (aA H q (Ah X.prog X.w q (λk=>(dd a).any (·==k)) (dd a).length))):=by
 intro j s J H d L Q I r h;obtain⟨p,a,rfl,z,l,q⟩:=h;obtain⟨u,rfl,A⟩:=jJ r;cases A;obtain⟨b,m,pl,M⟩:=I.list z;have n:=m.length;rw[c_]at n;refine Af (aK X.prog X.w) (key:=λi=>a.getD i (.inl 0)) (I.ok.hd hc) pl.isList (λi v c=>?_) (by rw[lh];unfold scanBound;lia) λh' tk f C=>?_
 ·have c:b[i]?=some v:=by simpa using c
  have hi:i<b.length:=(d_.mp c).1;obtain⟨u,h1,h2⟩:=m.get (i:=i) (x:=kV (a[i]'(by lia))) (by rw[j_,h_ (by lia)];rfl);rw[c]at h1;cases h1;have e:a.getD i (.inl 0)=a[i]'(by lia):=by simp[List.getD,h_ (show i<a.length by lia)]
  show(aK X.prog X.w).is (a.getD i (.inl 0)) v=true/\_;rw[e,oF];exact ze h2
 ·have f:h'.SetOf (aK X.prog X.w) s.heap.objs.size (λk=>(dd a).any (·==k)) (dd a).length:=by
   have y:h'.SetOf (aK X.prog X.w) s.heap.objs.size (λk=>(lX (λi=>a.getD i (.inl 0)) b.toArray.size).any (·==k)) (lX (λi=>a.getD i (.inl 0)) b.toArray.size).length:=f;have D:b.toArray.size=a.length:=by rw[lh];exact n.symm
   rw[D,yR]at y;exact y
  refine⟨.ref s.heap.objs.size,_,I.laid (h':=h') (t':=tk) (o:=Ah X.prog X.w s.heap.objs.size (λk=>(dd a).any (·==k)) (dd a).length) C (f_ _) ⟨f,?_,λh1 h2 g E=>?_⟩,rfl,q _ (I.hok.fresh (f_ _))⟩
  ·obtain⟨o,_,_,_,e,_⟩:=f;exact⟨o,e⟩
  ·obtain⟨o,F,G,t,e,mj⟩:=g;exact⟨o,F,G,t,E o e,mj⟩
def Fz:cO X (.builtin "len") (λa H Q=>∃(p:Addr)(S:cg->Bool)(n:Nat),a=[.ref p]/\H p=some (Ah X.prog X.w p S n)/\n<=4096/\Q (.int n) H):=by intro b s i H a j Q I r h;obtain⟨p,S,n,rfl,c,hn,q⟩:=h;obtain⟨u,rfl,d⟩:=jJ r;cases d;obtain⟨f,_,_⟩:=I.hok p _ c;obtain⟨o,k,l,t,e,ex,hd,_,_,_,g,rfl⟩:=f;exact call_len_set e ex hd g (by lia) ⟨.int _,H,I.tok _,⟨_,rfl⟩,q⟩
def Fx(K:R7)(c:X.K=K)(hc:X.calm=true)(d:X.prog=P:=by rfl)(e:X.w=w:=by rfl):cO X (.type "set") (λf H Q=>∃(p:Addr)(a:List cg),f=[.ref p]/\aX K H p (a.map kV)/\a.length<4000/\∀q,H q=none->Q (.ref q) (aA H q (Ah P w q (λk=>(dd a).any (·==k)) (dd a).length))):=by subst c;subst d;subst e;exact II hc
def vB(a:X.prog=P:=by rfl)(c:X.w=w:=by rfl):cO X (.builtin "len") (λd H Q=>∃(p:Addr)(S:cg->Bool)(n:Nat),d=[.ref p]/\H p=some (Ah P w p S n)/\n<=4096/\Q (.int n) H):=by subst a;subst c;exact Fz
end
theorem rD[BEq c]:∀(d:List c)(a:List c),(d.foldl step_dedup a).length<=a.length+d.length
 |[],a=>f_ _|k::r,a=>by
  have:=rD r (step_dedup a k);have h2:(step_dedup a k).length<=a.length+1:=by
   unfold step_dedup
   split
   ·exact r3 _
   ·rw[kt];exact f_ _
  rw[z0,ol];lia
theorem Bq[DecidableEq d][BEq d][LawfulBEq d]:∀(f c:List d),c.Nodup->((f.foldl step_dedup c).length=c.length+f.length↔(c++f).Nodup)
 |[],c,h=>by simp[h]|k::r,c,h=>by
  rw[z0]
  by_cases e:c.any (·==k)=true
  ·have g:step_dedup c k=c:=by unfold step_dedup;rw[kw e]
   have hm:k∈c:=by obtain⟨x,j,q⟩:=Q9.mp e;rw[<-eq_of_beq q];exact j
   rw[g]
   constructor
   ·intro q;have:=rD r c;rw[ol]at q;lia
   ·intro q;rw[rr]at q;exact absurd rfl (q.2.2 k hm k (mm))
  ·have g:step_dedup c k=c++[k]:=by unfold step_dedup;rw[ku e]
   have hm:k∉c:=λl=>e (Q9.mpr ⟨k,l,t0 k⟩);rw[g];have i:=Bq r (c++[k]) (by rw[rr];exact⟨h,by simp,λa m b n q=>hm (by rw[List.mem_singleton.mp n]at q;exact q▸m)⟩)
   rw[QW]at i;rw[show c++k::r=c++([k]++r)by rfl,<-i,kt,ol,List.length_singleton]
   constructor<;>intro q<;>lia
def Nc[DecidableEq c][BEq c][LawfulBEq c](a:List c):(dd a).length=a.length↔a.Nodup:=by have:=Bq a [] QM;simp at this;unfold dd;exact this
end L2
namespace L2
open PySem
def FW(t:SetTable)(n:Nat):(t.orStandIn n).led=t.led/\(t.plain=false->(t.orStandIn n).plain=false):=by
 unfold SetTable.orStandIn
 split
 ·exact⟨rfl,id⟩
 ·exact⟨rfl,λ_=>rfl⟩
def LT(t:SetTable)(a:Array (Int×Value))(h:Int)(x:Value):(layNew t a h x).2.1.led=t.led/\(t.plain=false->(layNew t a h x).2.1.plain=false):=by
 unfold layNew
 split
 ·rename_i sl wd e;exact FW (t.put sl).1 _
 ·exact⟨rfl,λ_=>rfl⟩
def FX(t:SetTable)(a:Array (Int×Value))(n:Nat):(relayAll t a n).2.1.led=t.led/\(t.plain=false->(relayAll t a n).2.1.plain=false):=by
 unfold relayAll
 split
 ·rename_i b d e;have c:b.led=t.led/\b.plain=t.plain:=by unfold SetTable.relaid SetTable.laid at e;cases hc:SetTable.layClean (SetTable.sizeAbove n-1) (a.map (·.1))with|none=>rw[hc]at e;cases e|some ow=>rw[hc]at e;cases e;exact⟨rfl,rfl⟩
  dsimp only
  split
  ·exact⟨c.1,λh=>c.2.trans h⟩
  ·exact⟨rfl,λ_=>rfl⟩
 ·exact⟨rfl,λ_=>rfl⟩
def vx(h:l[i]?=some x):(x::l.eraseIdx i).Perm l:=by
 have a:=(d_.mp h).1;have b:=(d_.mp h).2;have e:l=l.take i++x::l.drop (i+1):=by rw[<-b,List.getElem_cons_drop,vu]
 rw[List.eraseIdx_eq_take_drop_succ];refine List.Perm.trans ?_ (R5 e.symm);exact List.perm_middle.symm
def xv(next:Nat->Nat)(c:Array d):(pickOrder next c).toList.Perm c.toList:=by
 have go:∀(a k:Nat)(left:List d)(out:Array d),left.length<=a->(pickOrder.go next a k left out).toList.Perm (out.toList++left):=by
  intro a
  induction a with|zero=>intro k left out h;have:left=[]:=Q7.mp (by lia);subst this;unfold pickOrder.go;rw[B_]|succ a e=>intro k left out h;unfold pickOrder.go;cases b:left[next k%left.length]?with
 |none=>
    have hn:left=[]:=by cases left with|nil=>rfl|cons y f=>have:=Qd.mp b;have:=Nat.mod_lt (next k) (show 0<(y::f).length from QK _);lia
    subst hn;rw[B_]|some x=>have g:=(d_.mp b).1;have i:=(d_.mp b).2;dsimp only;refine(e _ _ _ (by rw[List.length_eraseIdx];split<;>lia)).trans ?_;rw[RO,QW];refine List.Perm.append_left _ ?_;show(x::left.eraseIdx (next k%left.length)).Perm left;exact vx b
 have:=go c.size 0 c.toList #[] (by simp);unfold pickOrder;simpa using this
end L2
namespace L2
open PySem
def hE:Slot "set_iterator" "__next__" "set_iterator.__next__":=.of (owner:="set_iterator") (n:="__next__") (by rw[Re,Qq];kernel_rfl) (by decide+kernel) (by decide+kernel) (by decide+kernel) (by first|exact .inl (by decide+kernel)|exact .inr (by decide+kernel)) (by rw[Rr];kernel_rfl)
def tW:Slot "set_iterator" "__iter__" "set_iterator.__iter__":=.of (owner:="set_iterator") (n:="__iter__") (by rw[Re,Qq];kernel_rfl) (by decide+kernel) (by decide+kernel) (by decide+kernel) (by first|exact .inl (by decide+kernel)|exact .inr (by decide+kernel)) (by rw[Rr];kernel_rfl)
def Ae:Manifest.owners.lookup (String.ofList ['r','o','t','a','r','e','t','i','_','t','e','s'].reverse)=some Manifest.sig_set_iterator:=by kernel_rfl
def lj(a:Value):argsOk "set_iterator.__next__" ⟨[a],[]⟩:=by unfold argsOk;rw[signature?_of (id:="set_iterator.__next__") (n:=['_','_','t','x','e','n','_','_']) (o:=['r','o','t','a','r','e','t','i','_','t','e','s']) (by kernel_rfl) Ae];kernel_rfl
def oU(a:Value):argsOk "set_iterator.__iter__" ⟨[a],[]⟩:=by unfold argsOk;rw[signature?_of (id:="set_iterator.__iter__") (n:=['_','_','r','e','t','i','_','_']) (o:=['r','o','t','a','r','e','t','i','_','t','e','s']) (by kernel_rfl) Ae];kernel_rfl
def j4:entryFor table "set_iterator.__next__"=some Builtin.«set_iterator.__next__»:=entryFor_of_tree (by kernel_rfl)
def nu:entryFor table "set_iterator.__iter__"=some Builtin.«dict_keyiterator.__iter__»:=entryFor_alias (id':="dict_keyiterator.__iter__") (by kernel_rfl) rfl (by decide+kernel) (by kernel_rfl)
def uv:entryFor table "set.__iter__"=some Builtin.«frozenset.__iter__»:=entryFor_alias (id':="frozenset.__iter__") (by kernel_rfl) rfl (by decide+kernel) (by kernel_rfl)
abbrev ix(first:Value)(i:Nat)(a:Addr)(n c:Nat):Obj:={cls:=.type "set_iterator",dict:=none,data:=.fields #[first,.int i 0,.ref a,.int n 0,.int c 0],slots:=#[]}
abbrev lT(a:Sa):Obj:={cls:=.type "tuple",dict:=none,data:=.seq a.toArray}
structure fD(h:Heap)(a:Addr)(es:Array (Int×Value))(ep:Nat)(t:SetTable):Prop where
 ob:∃o,h.get? a=some o/\o.cls=.type "set"/\o.data=.set es ep t
 fits:t.fits es.size=true
def fD.keep(x:fD h a c d t)(k:∀o,h.get? a=some o->h'.get? a=some o):fD h' a c d t:=⟨let⟨o,e,r⟩:=x.ob;⟨o,k o e,r⟩,x.fits⟩
def fD.ty{s:Shared}{a:Addr}{d:Array (Int×Value)}{f:Nat}{t:SetTable}(x:fD s.heap a d f t):s.TypeIs (.ref a) "set":=let⟨o,e,c,_⟩:=x.ob;⟨o,e,c⟩
section
variable{prog:Sb}{w:World}{A:Around}{E:R8}{s:Shared}
theorem vy:∀(n:Nat)(a:List f)(s:Shared)(Q:List f->Shared->Prop),a.length<=n->(∀c d,c.Perm a->Q c {s with drawn:=d})->wpAny (model prog w) A (drawOrder n a) Q E s
 |0,a,s,Q,e,h=>by have:a=[]:=Q7.mp (by lia);subst this;unfold drawOrder;exact e_ (h [] s.drawn (Rv _))|n+1,[],s,Q,e,h=>by unfold drawOrder;exact e_ (h [] s.drawn (Rv _))|n+1,x::r,s,Q,e,h=>by
  unfold drawOrder;refine a_ (m:=choose .order (x::r).length) (λΓ p g=>?_);unfold choose;rw[Sem.wp_choose];refine⟨Nat.succ_ne_zero _,?_⟩;have hi:w.draws .order (s.drawn.get .order)%(x::r).length<(x::r).length:=Nat.mod_lt _ (QK _);have b:wpAny (model prog w) A (match(x::r)[w.draws .order (s.drawn.get .order)%(x::r).length]?with|some y=>do return y::(<-drawOrder n ((x::r).eraseIdx (w.draws .order (s.drawn.get .order)%(x::r).length)))|none=>unsupported "internal:drawOrder") Q E {s with drawn:=s.drawn.bump .order}:=by generalize w.draws .order (s.drawn.get .order)%(x::r).length=i at hi⊢;rw[h_ hi];refine a_ (vy n _ _ _ (by rw[List.length_eraseIdx,kw hi];lia) λc d j=>?_);exact e_ (h _ _ ((List.Perm.cons _ j).trans (vx (h_ hi))))
  exact b
set_option maxHeartbeats 4000000 in
def HJ{a:Addr}{c:Array (Int×Value)}{h:Nat}{t:SetTable}{Q:R8}(e:fD s.heap a c h t)(hn:c.size<=sizeLine)(h1:(!w.params.followText "set-order"&&(!t.plain&&decide (c.size>1)))=false->Q (.ref s.heap.objs.size) {s with heap:=s.heap.push (ix (.int 0 0) 0 a c.size h)})(h2:(!w.params.followText "set-order"&&(!t.plain&&decide (c.size>1)))=true->∀(d:Sf)(f:Drawn),d.Perm (List.range c.size)->Q (.ref (s.heap.objs.size+1)) {s with heap:=(s.heap.push (lT (d.map λ(i:Nat)=>Value.int (i:Int) 0))).push (ix (.ref s.heap.objs.size) 0 a c.size h),drawn:=f}):wpAny (model prog w) A (pyIter (.ref a)) Q E s:=by obtain⟨o,b,hc,hd⟩:=e.ob;have g:=e.fits;refine RF e.ty F.slot_set_iter (qr F.slot_set_iter e.ty uv ?_ (F.args_set_iter_1 _));unfold Builtin.«frozenset.__iter__»;refine a_ (m:=Builtin.Frozenset.slot0 "__iter__" _) (a_ (m:=slotArgs "__iter__" 0 _) (e_ (e_ ?_)));refine a_ (m:=Builtin.Frozenset.sizeOf a) (a_ (QG b hd g (e_ ?_)));refine a_ (m:=setDrawn a) (a_ (J_ b hd g (a_ (a_ (Qc (e_ ?_))))));refine e_ ?_;dsimp only;show wpAny _ _ (if(!w.params.followText "set-order"&&(!t.plain&&decide (c.size>1)))=true then _ else _) _ _ s;cases hc:(!w.params.followText "set-order"&&(!t.plain&&decide (c.size>1)))with|false=>rw[ku mo];refine a_ (e_ ?_);refine a_ (wpAny_setEpoch_of b hd g ?_);refine a_ (q4 (e_ ⟨_,rfl,"set_iterator",_,⟨_,g_ _ rfl,rfl⟩,hE.lookup,?_⟩));exact h1 hc|true=>
  rw[kw rfl];refine a_ (vy c.size (List.range c.size) s _ (by rw[rd];exact f_ _) λd f k=>?_);have l:d.length=c.size:=by rw[k.length_eq,rd]
  refine a_ (q4 ?_ (by show(d.map λ(i:Nat)=>rawInt i).toArray.size<=sizeLine;rw[lh,c_,l];exact hn));have j:(s.heap.push (lT (d.map λ(i:Nat)=>Value.int (i:Int) 0))).get? a=some o:=b_ _ b;refine a_ (wpAny_setEpoch_of (s:={s with heap:=s.heap.push (lT (d.map λ(i:Nat)=>Value.int (i:Int) 0)),drawn:=f}) j hd g ?_);refine a_ (q4 (e_ ⟨_,rfl,"set_iterator",_,⟨_,g_ _ rfl,rfl⟩,hE.lookup,?_⟩));have:=h2 hc d f k;rw[show s.heap.objs.size+1=(s.heap.push (lT (d.map λ(i:Nat)=>Value.int (i:Int) 0))).objs.size from(op ..).symm]at this;exact this
def EO{I a:Addr}{d:Array (Int×Value)}{c i slot nx:Nat}{t:SetTable}{x:Value}{Q:Option Value->Shared->Prop}(e:s.heap.get? I=some (ix (.int slot 0) i a d.size c))(f:fD s.heap a d c t)(hn:∀(A:Around)(g:Option (Value×Nat)->Shared->Prop)(E:R8),g (some (x,nx)) s->wpAny (model prog w) A (setNext a slot i c) g E s)(h:∀h',h'.get? I=some (ix (.int nx 0) (i+1) a d.size c)->Heap.SameBut I s.heap h'->Q (some x) {s with heap:=h'}):wpAny (model prog w) A (pyNext (.ref I)) Q E s:=by obtain⟨o,j,hc,hd⟩:=f.ob;have ty:s.TypeIs (.ref I) "set_iterator":=⟨_,e,rfl⟩;unfold pyNext;refine a_ (Qy (qx (name:=Str.ofString "__next__") ty hE (qr hE ty j4 ?_ (lj _))));unfold Builtin.«set_iterator.__next__»;refine a_ (m:=slotArgs "__next__" 0 _) (e_ ?_);refine a_ (wpAny_fieldsOf e rfl ?_);show wpAny _ _ (setEntries a>>=_) _ _ s;refine a_ (QG j hd f.fits ?_);rw[ku (by simp)];refine a_ (m:=setNext a slot i c) (hn _ _ _ ?_);refine a_ (qq e (by simp) λh1 k b1=>?_);refine a_ (qq (s:={s with heap:=h1}) k (by simp) λh2 l b2=>?_);refine e_ ⟨_,rfl,e_ (h h2 ?_ (b1.trans b2))⟩;rw[l];rfl
def Cq{I T a:Addr}{c:Array (Int×Value)}{d i:Nat}{e:Sf}{j:Nat}{t:SetTable}{x:Int×Value}{Q:Option Value->Shared->Prop}(f:s.heap.get? I=some (ix (.ref T) i a c.size d))(g:fD s.heap a c d t)(n:s.heap.get? T=some (lT (e.map λ(i:Nat)=>Value.int (i:Int) 0)))(p:e[i]?=some j)(q:c[j]?=some x)(r:∀h',h'.get? I=some (ix (.ref T) (i+1) a c.size d)->Heap.SameBut I s.heap h'->Q (some x.2) {s with heap:=h'}):wpAny (model prog w) A (pyNext (.ref I)) Q E s:=by
 obtain⟨o,k,hc,hd⟩:=g.ob;have ty:s.TypeIs (.ref I) "set_iterator":=⟨_,f,rfl⟩;unfold pyNext;refine a_ (Qy (qx (name:=Str.ofString "__next__") ty hE (qr hE ty j4 ?_ (lj _))));unfold Builtin.«set_iterator.__next__»;refine a_ (m:=slotArgs "__next__" 0 _) (e_ ?_);refine a_ (wpAny_fieldsOf f rfl ?_);show wpAny _ _ (setEntries a>>=_) _ _ s;refine a_ (QG k hd g.fits ?_);rw[ku (by simp)];show wpAny _ _ (seqItems? (.ref T)>>=_) _ _ s;refine a_ (rl n rfl ?_);have b:(e.map λ(i:Nat)=>Value.int (i:Int) 0).toArray[(i:Int).toNat]?=some (.int (j:Nat) 0):=by rw[Rm,j_,ot,p];rfl
 show wpAny _ _ (match(e.map λ(i:Nat)=>Value.int (i:Int) 0).toArray[(i:Int).toNat]?with|some (.int h _)=>_|some _=>_|none=>_) _ _ s;rw[b];refine a_ (m:=setNextDrawn a j d) ?_;unfold setNextDrawn;refine a_ (J_ k hd g.fits ?_);dsimp only;rw[ku (by simp)];rw[q];refine e_ ?_;refine a_ (qq f (by simp) λh1 u b1=>?_);refine e_ ⟨_,rfl,e_ (r h1 ?_ b1)⟩;rw[u];rfl
end
end L2
namespace L2
open PySem
def fV(a:Array Nat):Prop:=∀i j:Nat,i<j->j<a.size->a.getD i 0<a.getD j 0
def HZ{a:Array Nat}{i:Nat}(h:i<a.size)(d:Nat):a.getD i d=a.getD i 0:=by simp[Array.getD,h]
def fV.le(r:fV a)(h:i<=j)(c:j<a.size):a.getD i 0<=a.getD j 0:=by
 rcases Rb i j with q|q
 ·exact tl (r i j q c)
 ·have:i=j:=by lia
  rw[this];exact f_ _
theorem vJ{a:Array Nat}(r:fV a)(j:Nat):∀(fuel lo hi:Nat),hi-lo<=fuel->lo<=hi->hi<=a.size->(∀k,k<lo->a.getD k 0<j)->(∀k,hi<=k->k<a.size->¬a.getD k 0<j)->SetTable.below.go a j fuel lo hi<=a.size/\(∀k,k<SetTable.below.go a j fuel lo hi->a.getD k 0<j)/\(∀k,SetTable.below.go a j fuel lo hi<=k->k<a.size->¬a.getD k 0<j)
 |0,lo,hi,g,h,c,h1,h2=>by
  unfold SetTable.below.go;have:lo=hi:=by lia
  subst this;exact⟨c,h1,h2⟩|fuel+1,lo,hi,g,h,c,h1,h2=>by
  unfold SetTable.below.go
  by_cases b:lo<hi
  ·rw[kw b];have hm:(lo+hi)/2<a.size:=by lia
   dsimp only;rw[HZ hm j]
   by_cases d:a.getD ((lo+hi)/2) 0<j
   ·rw[kw d];exact vJ r j fuel _ _ (by lia) (by lia) c (λk f=>QL (r.le (by lia) hm) d) h2
   ·rw[ku d];exact vJ r j fuel _ _ (by lia) (by lia) (by lia) h1 (λk f e q=>d (QL (r.le f e) q))
  ·rw[ku b];have:lo=hi:=by lia
   subst this;exact⟨c,h1,h2⟩
def rP(r:fV a)(j:Nat):SetTable.below a j<=a.size/\(∀k,k<SetTable.below a j->a.getD k 0<j)/\(∀k,SetTable.below a j<=k->k<a.size->¬a.getD k 0<j):=vJ r j a.size 0 a.size (by lia) (n0 _) (f_ _) (λk b=>absurd b (R0 _)) (λk h1 h2=>absurd h2 (by lia))
def GB(a:Array Nat):Nat->Nat|0=>0|i+1=>a.getD i 0+1
def vI(r:fV a):∀{i:Nat},i<=a.size->SetTable.below a (GB a i)=i
 |0,_=>by
  obtain⟨h1,h2,h3⟩:=rP r 0;rcases Nat.eq_zero_or_pos (SetTable.below a 0)with q|q
  ·exact q
  ·exact absurd (h2 0 q) (R0 _)|i+1,hi=>by
  obtain⟨h1,h2,h3⟩:=rP r (a.getD i 0+1);show SetTable.below a (a.getD i 0+1)=i+1;rcases Nat.lt_trichotomy (SetTable.below a (a.getD i 0+1)) (i+1)with q|q|q
  ·exact absurd (rV _) (h3 i (by lia) (by lia))
  ·exact q
  ·have:=h2 (i+1) q;have:=r i (i+1) (rV _) (by lia);lia
def fV.few{a:Array Nat}(h:a.size<=1):fV a:=λi j h1 h2=>by lia
section
variable{prog:Sb}{w:World}{A:Around}{E:R8}{s:Shared}
def oW(c:fD s.heap a g d t)(f:w.params.followText "set-order"=true)(h:Q (((pickOrder (w.params.setOrder a d) g)[i]?).map λe=>(e.2,slot)) s):wpAny (model prog w) A (setNext a slot i d) Q E s:=by obtain⟨o,b,hc,hd⟩:=c.ob;unfold setNext;refine a_ (J_ b hd c.fits ?_);dsimp only;refine a_ (m:=setsByText) (a_ (Qc (e_ ?_)));show wpAny _ _ (if(w.params.followText "set-order")=true then _ else _) _ _ s;rw[kw f,ku (by simp)];refine a_ (m:=setWalk a) ?_;unfold setWalk;refine a_ (J_ b hd c.fits ?_);dsimp only;refine a_ (m:=setsByText) (a_ (Qc (e_ ?_)));show wpAny _ _ (if(w.params.followText "set-order")=true then _ else _) _ _ s;rw[kw f];refine a_ (Qc (e_ ?_));exact e_ h
def oX(d:fD s.heap a c e t)(f:w.params.followText "set-order"=false)(g:(!t.plain&&decide (c.size>1))=false)(l:t.led=true)(h:Q (match c[SetTable.below t.place slot]?,t.place[SetTable.below t.place slot]?with|some (_,x),some j=>some (x,j+1)|_,_=>none) s):wpAny (model prog w) A (setNext a slot i e) Q E s:=by obtain⟨o,b,hc,hd⟩:=d.ob;unfold setNext;refine a_ (J_ b hd d.fits ?_);dsimp only;refine a_ (m:=setsByText) (a_ (Qc (e_ ?_)));show wpAny _ _ (if(w.params.followText "set-order")=true then _ else _) _ _ s;rw[ku (by rw[f];exact mo)];show wpAny _ _ (if(!t.plain&&decide (c.size>1))=true then _ else _) _ _ s;rw[ku (by rw[g];exact mo)];refine a_ ?_;show wpAny _ _ (if(!t.led&&!c.isEmpty)=true then _ else _) _ _ s;rw[ku (by rw[l];simp)];exact e_ (e_ h)
def AQ(hh:A.handled=none)(f:s.heap.get? I=some (ix first i a q.size g))(l:fD s.heap a q g t)(hn:(∃slot:Nat,first=.int slot 0/\∀(A:Around)(n:Option (Value×Nat)->Shared->Prop)(E:R8),n none s->wpAny (model prog w) A (setNext a slot i g) n E s)\/∃(T:Addr)(d:Sf),first=.ref T/\s.heap.get? T=some (lT (d.map λ(i:Nat)=>Value.int (i:Int) 0))/\d[i]?=none)(r:∀h',(∀b o,b≠I->s.heap.get? b=some o->h'.get? b=some o)->Q none {s with heap:=h'}):wpAny (model prog w) A (pyNext (.ref I)) Q E s:=by
 obtain⟨o,u,hc,hd⟩:=l.ob;have ty:s.TypeIs (.ref I) "set_iterator":=⟨_,f,rfl⟩;have fin:∀(R:Fin->Shared->Prop)(h1:Heap),(∀b o,b≠I->s.heap.get? b=some o->h1.get? b=some o)->wpAny (model prog w) A.in1 (newExc (.type "StopIteration") []>>=λe=>raiseNew e:Sem Fin) R (λe v=>wpAny (model prog w) A (do if<-isInstance e (.type "StopIteration")then pure none else throw e) Q E v) {s with heap:=h1}:=by intro R h1 x;refine a_ ?_;simp only[newExc,newTuple];refine a_ (q4 ?_ (by size_fits));refine a_ (m:=firstArgMember _ _) (wpAny_of_eq (a:=Value.none) (by first|rfl|(simp only[firstArgMember];rfl)) ?_);refine q4 ?_ (by size_fits);simp only[raiseNew];refine a_ (wpAny_handled ?_);rw[show A.in1.handled=none from hh];refine a_ (e_ (wpAny_throw ?_));refine a_ (Qs (T:="StopIteration") (b:=true) ⟨_,g_ _ rfl,rfl⟩ isSubtype_stop ?_);exact e_ (r _ λb o c e=>b_ _ (b_ _ (x b o c e)))
 unfold pyNext;refine a_ (Qy (qx (name:=Str.ofString "__next__") ty hE (qr hE ty j4 ?_ (lj _))));unfold Builtin.«set_iterator.__next__»;refine a_ (m:=slotArgs "__next__" 0 _) (e_ ?_);refine a_ (wpAny_fieldsOf f rfl ?_);show wpAny _ _ (setEntries a>>=_) _ _ s;refine a_ (QG u hd l.fits ?_);rw[ku (by simp)];rcases hn with⟨slot,rfl,hn⟩|⟨T,d,rfl,y,z⟩
 ·refine a_ (m:=setNext a slot i g) (hn _ _ _ ?_);refine a_ (qq f (by simp) λh1 p b1=>?_);exact fin _ h1 λb o c e=>(b1.2 b c).trans e
 ·show wpAny _ _ (seqItems? (.ref T)>>=_) _ _ s;refine a_ (rl y rfl ?_);have h:(d.map λ(i:Nat)=>Value.int (i:Int) 0).toArray[(i:Int).toNat]?=none:=by rw[Rm,j_,ot,z];rfl
  show wpAny _ _ (match(d.map λ(i:Nat)=>Value.int (i:Int) 0).toArray[(i:Int).toNat]?with|some (.int j _)=>_|some _=>_|none=>_) _ _ s;rw[h];refine a_ (qq f (by simp) λh1 p b1=>?_);refine a_ (qq (s:={s with heap:=h1}) p (by simp) λh2 B b2=>?_);exact fin _ h2 λb o c e=>(b2.2 b c).trans ((b1.2 b c).trans e)
def FQ(hh:A.handled=none)(M:fD s.heap a c g t)(hn:c.size<=sizeLine)(hl:w.params.followText "set-order"=false->t.led=true)(hr:t.plain=true->fV t.place)(h:∀(I:Addr)(h':Heap)(T:Drawn)(f:List (Int×Value))(fp:Sg)(St:Nat->Heap->Prop),f.Perm c.toList->(∀b o,s.heap.get? b=some o->h'.get? b=some o)->s.heap.objs.size<=I->I<h'.objs.size->(∀b∈fp,b=a\/s.heap.objs.size<=b)->Walks prog w A I fp [I] c.size (λi v=>∃x,f[i]?=some x/\v=x.2) St->St 0 h'->Q (.ref I) {s with heap:=h',drawn:=T}):wpAny (model prog w) A (pyIter (.ref a)) Q E s:=by
 have ha:a<s.heap.objs.size:=let⟨o,e,_⟩:=M.ob;kl e;have U:t.place.size=c.size:=by have:=M.fits;unfold SetTable.fits at this;simp only[o0,beq_iff_eq]at this;exact this.1
 refine HJ M hn (λhc=>?_) (λhc u T L=>?_)
 ·--by slots
  have N:∀b o,s.heap.get? b=some o->(s.heap.push (ix (.int 0 0) 0 a c.size g)).get? b=some o:=λb o e=>b_ _ e;have hg:(s.heap.push (ix (.int 0 0) 0 a c.size g)).get? s.heap.objs.size=some (ix (.int 0 0) 0 a c.size g):=g_ _ rfl;have V:s.heap.objs.size<(s.heap.push (ix (.int 0 0) 0 a c.size g)).objs.size:=by rw[op];exact rV _
  have H:a≠s.heap.objs.size:=l_ ha;have C:∀(first:Nat->Nat)(f:List (Int×Value)),first 0=0->f.Perm c.toList->(∀(i:Nat)(d:Shared)(x:Int×Value),f[i]?=some x->fD d.heap a c g t->∀(A:Around)(D:Option (Value×Nat)->Shared->Prop)(E:R8),D (some (x.2,first (i+1))) d->wpAny (model prog w) A (setNext a (first i) i g) D E d)->(∀(d:Shared),fD d.heap a c g t->∀(A:Around)(D:Option (Value×Nat)->Shared->Prop)(E:R8),D none d->wpAny (model prog w) A (setNext a (first c.size) c.size g) D E d)->Q (.ref s.heap.objs.size) {s with heap:=s.heap.push (ix (.int 0 0) 0 a c.size g)}:=by
   intro first f f0 L hi hd;have W:f.length=c.size:=by rw[L.length_eq,n_]
   refine h s.heap.objs.size _ s.drawn f [s.heap.objs.size,a] (λi h'=>h'.get? s.heap.objs.size=some (ix (.int (first i) 0) i a c.size g)/\fD h' a c g t) L N (f_ _) V ?_ ?_ ?_
   ·intro b m;simp only[pw,oi,vr]at m;rcases m with rfl|rfl
    ·exact .inr (f_ _)
    ·exact .inl rfl
   ·refine{sub:=λb m=>?_,frame:=λi h1 h2 st k=>?_,item:=λi d O P X st q=>?_,done:=λd O P st q=>?_,self:=λi d O P st q=>?_}
    ·rw[List.mem_singleton.mp m];exact mm
    ·exact⟨k _ mm _ st.1,st.2.keep λo e=>k _ (k4 _ mm) _ e⟩
    ·obtain⟨x,p⟩:∃x,f[i]?=some x:=⟨f[i]'(by lia),h_ (by lia)⟩;refine EO (nx:=first (i+1)) st.1 st.2 (hi i d x p st.2) λh2 Y b2=>?_;exact q x.2 h2 d.toks ⟨x,p,rfl⟩ ⟨Y,st.2.keep λo e=>(b2.2 _ H).trans e⟩ λb o m e=>(b2.2 b λz=>m (by rw[z];exact List.mem_singleton.mpr rfl)).trans e
    ·refine AQ hh st.1 st.2 (.inl ⟨_,rfl,hd d st.2⟩) λh2 Z=>?_;exact q h2 d.toks λb o m e=>Z b o (λz=>m (by rw[z];exact List.mem_singleton.mpr rfl)) e
    ·have ty:d.TypeIs (.ref s.heap.objs.size) "set_iterator":=⟨_,st.1,rfl⟩;refine RF ty tW (qr tW ty nu ?_ (oU _));exact e_ ⟨_,rfl,"set_iterator",_,ty,hE.lookup,q⟩
   ·rw[f0];exact⟨hg,M.keep λo e=>N _ _ e⟩
  cases J:w.params.followText "set-order"with
 |true=>
   have W:(pickOrder (w.params.setOrder a g) c).toList.length=c.size:=by rw[(xv _ _).length_eq,n_]
   refine C (λ_=>0) (pickOrder (w.params.setOrder a g) c).toList rfl (xv _ _) (λi d x p B A D E q=>?_) (λd B A D E q=>?_)
   ·refine oW B J ?_;have p:(pickOrder (w.params.setOrder a g) c)[i]?=some x:=by rw[<-v_];exact p
    rw[p];exact q
   ·refine oW B J ?_;have p:(pickOrder (w.params.setOrder a g) c)[c.size]?=none:=by rw[<-v_];exact Qd.mpr (by lia)
    rw[p];exact q|false=>
   have F:(!t.plain&&decide (c.size>1))=false:=by rw[J]at hc;simpa using hc
   have rs:fV t.place:=by cases G:t.plain with|true=>exact hr G|false=>rw[G]at F;refine fV.few ?_;rw[U];simpa using F
   refine C (GB t.place) c.toList rfl (Rv _) (λi d x p B A D E q=>?_) (λd B A D E q=>?_)
   ·have p:c[i]?=some x:=by rw[<-v_];exact p
    have hi:i<c.size:=(Array.getElem?_eq_some_iff.mp p).1;refine oX B J F (hl J) ?_;rw[vI rs (by lia),p];have G:t.place[i]?=some (t.place.getD i 0):=by rw[vl (by lia)];simp[Array.getD,show i<t.place.size by lia]
    rw[G];exact q
   ·refine oX B J F (hl J) ?_;rw[vI rs (by lia)];rw[show c[c.size]?=none from Array.getElem?_eq_none (f_ _)];exact q
 ·--drawn
  have aa:(s.heap.push (lT (u.map λ(i:Nat)=>Value.int (i:Int) 0))).get? s.heap.objs.size=some (lT (u.map λ(i:Nat)=>Value.int (i:Int) 0)):=g_ _ rfl;have hz:(s.heap.push (lT (u.map λ(i:Nat)=>Value.int (i:Int) 0))).objs.size=s.heap.objs.size+1:=op ..;have N:∀b o,s.heap.get? b=some o->((s.heap.push (lT (u.map λ(i:Nat)=>Value.int (i:Int) 0))).push (ix (.ref s.heap.objs.size) 0 a c.size g)).get? b=some o:=λb o e=>b_ _ (b_ _ e);have hg:((s.heap.push (lT (u.map λ(i:Nat)=>Value.int (i:Int) 0))).push (ix (.ref s.heap.objs.size) 0 a c.size g)).get? (s.heap.objs.size+1)=some (ix (.ref s.heap.objs.size) 0 a c.size g):=by rw[<-hz];exact g_ _ rfl
  have al:u.length=c.size:=by rw[L.length_eq,rd]
  have R:∀(i j:Nat),u[i]?=some j->j<c.size:=λi j q=>by have:=L.mem_iff.mp (i_ q);exact q_.mp this
  refine h (s.heap.objs.size+1) _ T (u.filterMap λj=>c[j]?) [s.heap.objs.size+1,a,s.heap.objs.size] (λi h'=>h'.get? (s.heap.objs.size+1)=some (ix (.ref s.heap.objs.size) i a c.size g)/\fD h' a c g t/\h'.get? s.heap.objs.size=some (lT (u.map λ(i:Nat)=>Value.int (i:Int) 0))) ?_ N (r3 _) ?_ ?_ ?_ ?_
  ·have:=L.filterMap (λj=>c[j]?);rw[filterMap_getElem?_range]at this;exact this
  ·rw[op,hz];exact rV _
  ·intro b m;simp only[pw,oi,vr]at m;rcases m with rfl|rfl|rfl
   ·exact .inr (r3 _)
   ·exact .inl rfl
   ·exact .inr (f_ _)
  ·have H:a≠s.heap.objs.size+1:=l_ (r_ ha);have S:∀(i:Nat)(j:Nat)(x:Int×Value),u[i]?=some j->c[j]?=some x->(u.filterMap λj=>c[j]?)[i]?=some x:=by
    have gen:∀(l:Sf),(∀j∈l,j<c.size)->∀(i j:Nat)(x:Int×Value),l[i]?=some j->c[j]?=some x->(l.filterMap λj=>c[j]?)[i]?=some x:=by
     intro l
     induction l with|nil=>intro _ i j x hi _;simp at hi|cons y r ih=>intro m i j x hi p;have hy:c[y]?=some (c[y]'(m y mm)):=vl _;rw[List.filterMap_cons_some hy];cases i with|zero=>simp only[List.getElem?_cons_zero,QS]at hi⊢;subst hi;rw[hy]at p;exact m_ p|succ i=>simp only[List.getElem?_cons_succ]at hi⊢;exact ih (λj K=>m j (k4 _ K)) i j x hi p
    intro i j x h1 h2;refine gen u (λj K=>?_) i j x h1 h2;obtain⟨n,hn⟩:=m3.mp K;exact R n j hn
   refine{sub:=λb m=>?_,frame:=λi h1 h2 st k=>?_,item:=λi d O P X st q=>?_,done:=λd O P st q=>?_,self:=λi d O P st q=>?_}
   ·rw[List.mem_singleton.mp m];exact mm
   ·exact⟨k _ mm _ st.1,st.2.1.keep λo e=>k _ (k4 _ mm) _ e,k _ (k4 _ (k4 _ mm)) _ st.2.2⟩
   ·obtain⟨j,K⟩:∃j,u[i]?=some j:=⟨u[i]'(by lia),h_ (by lia)⟩;have ad:=R i j K;have p:c[j]?=some (c[j]'ad):=vl _;refine Cq st.1 st.2.1 st.2.2 K p λh2 Y b2=>?_;exact q _ h2 d.toks ⟨_,S i j _ K p,rfl⟩ ⟨Y,st.2.1.keep λo e=>(b2.2 _ H).trans e,(b2.2 _ (l_ (rV _))).trans st.2.2⟩ λb o m e=>(b2.2 b λz=>m (by rw[z];exact List.mem_singleton.mpr rfl)).trans e
   ·refine AQ hh st.1 st.2.1 (.inr ⟨_,u,rfl,st.2.2,Qd.mpr (by lia)⟩) λh2 Z=>?_;exact q h2 d.toks λb o m e=>Z b o (λz=>m (by rw[z];exact List.mem_singleton.mpr rfl)) e
   ·have ty:d.TypeIs (.ref (s.heap.objs.size+1)) "set_iterator":=⟨_,st.1,rfl⟩;refine RF ty tW (qr tW ty nu ?_ (oU _));exact e_ ⟨_,rfl,"set_iterator",_,ty,hE.lookup,q⟩
  ·exact⟨hg,M.keep λo e=>N _ _ e,b_ _ aa⟩
end
end L2
namespace L2
open PySem
section
variable{prog:Sb}{w:World}{A:Around}{E:R8}{s:Shared}
def HR(ty:s.TypeIs (.ref a) "set")(h:Q false s):wpAny (model prog w) A (Builtin.List.listLengthHint (.ref a)) Q E s:=by
 unfold Builtin.List.listLengthHint;refine a_ (Rc ty F.slot_set_len.lookup ?_);generalize c:("set.__len__":String)=nm
 wp_delta
 rw[show splitId nm=some ("set","__len__")from by subst c;decide+kernel];subst c;refine a_ (Qs (T:="set") (b:=true) ty (by rw[Rr];kernel_rfl) ?_);refine ta (λz=>absurd z (by decide)) (λ_=>?_);refine ta (λ_=>?_) (λz=>absurd (by decide+kernel) z);exact a_ (RE ty (e_ h))
def Bt(hh:A.handled=none)(X:fD s.heap a l ep t)(hn:l.size<=sizeLine)(hl:w.params.followText "set-order"=false->t.led=true)(p:t.plain=true->fV t.place)(h:∀(h':Heap)(d':Drawn)(tk:Nat)(Z:Sa),Z.Perm (l.toList.map (·.2))->(∀b o,s.heap.get? b=some o->h'.get? b=some o)->s.heap.objs.size<=h'.objs.size->R Z {s with heap:=h',drawn:=d',toks:=tk}):wpAny (model prog w) A (collect (.ref a)) R E s:=by
 have M:a<s.heap.objs.size:=let⟨o,e,_⟩:=X.ob;kl e;unfold collect;refine a_ (Rp (u1 F.entry_proto_collect ?_));rw[x_ F.plain_proto_collect _];refine a_ (m:=newList []) (q4 ?_);refine e_ ⟨Qg F.plain_list_iadd _,u1 F.entry_list_iadd ?_⟩;rw[x_ F.plain_list_iadd _];have V:(s.heap.push {cls:=.type "list",data:=.seq ([]:Sa).toArray}).get? s.heap.objs.size=some {cls:=.type "list",data:=.seq #[]}:=g_ _ rfl;have g:fD (s.heap.push {cls:=.type "list",data:=.seq ([]:Sa).toArray}) a l ep t:=X.keep λo e=>b_ _ e;have j:(s.heap.push {cls:=.type "list",data:=.seq ([]:Sa).toArray}).objs.size=s.heap.objs.size+1:=op ..;have N:∀b o,s.heap.get? b=some o->(s.heap.push {cls:=.type "list",data:=.seq ([]:Sa).toArray}).get? b=some o:=λb o e=>b_ _ e;generalize s.heap.push {cls:=.type "list",data:=.seq ([]:Sa).toArray}=h0 at V g j N⊢;show wpAny _ A.in1 (Builtin.List.listExtendWith (.ref s.heap.objs.size) (.ref a) (.ref s.heap.objs.size)) _ _ {s with heap:=h0};unfold Builtin.List.listExtendWith;refine a_ (RE (T:="set") (s:={s with heap:=h0}) g.ty ?_);have ne:Builtin.List.listSameRef (.ref s.heap.objs.size) (.ref a)=false:=by simp[Builtin.List.listSameRef,ov M]
 rw[ku (by rw[ne];decide)];refine a_ (FQ (s:={s with heap:=h0}) (A:=A.in1) hh g hn hl p λI h1 n u fp St Y J hI ad y W st=>?_);refine a_ (p_ (HR (s:={s with heap:=h1,drawn:=n}) (g.keep λo e=>J _ _ e).ty ?_));have O:=J _ _ V;have aa:u.length=l.size:=by rw[Y.length_eq,n_]
 have k:∀(h2:Heap)(c:Nat),St 0 h2->(∀b o,s.heap.get? b=some o->h2.get? b=some o)->h2.get? s.heap.objs.size=some {cls:=.type "list",dict:=none,data:=.seq #[] c,slots:=#[]}->codeAny (model prog w) A (.builtin "list.extend.loop" ⟨[.ref s.heap.objs.size,.ref I,.ref s.heap.objs.size],[]⟩) (λr B=>∃v,r=.ok (.ret v)/\v=.ref s.heap.objs.size/\∃(h':Heap)(tk:Nat)(f:Se)(C:Nat),B={s with heap:=h',drawn:=n,toks:=tk}/\(∀b o,s.heap.get? b=some o->h'.get? b=some o)/\h'.get? s.heap.objs.size=some {cls:=.type "list",dict:=none,data:=.seq f C,slots:=#[]}/\f.toList.Perm (l.toList.map (·.2))) {s with heap:=h2,drawn:=n}:=by
  intro h2 c P k2 K;refine codeAny_extend_loopS W.toS hn s.heap.objs.size (λhm=>?_) _ l.size 0 _ #[] c rfl (n0 _) P K (ItemsOf.nil _) λB d C L g' it=>?_
  ·rcases y _ hm with e|e
   ·exact absurd e (ov M)
   ·have:h0.objs.size<=s.heap.objs.size:=e;rw[j]at this;exact absurd this (Nat.not_succ_le_self _)
  ·obtain⟨h3,Q,d3,t3,o3⟩:=B;obtain rfl:Q=s.gens:=L.gens;obtain rfl:d3=n:=L.drawn;obtain rfl:o3=s.os:=L.os;refine⟨_,rfl,rfl,h3,t3,d,C,rfl,λb o e=>?_,g',?_⟩
   ·refine L.heap b o (λhm=>?_) (k2 b o e);have D:b<s.heap.objs.size:=kl e;rcases pw.mp hm with z|z
    ·exact absurd z (l_ D)
    ·rw[List.mem_singleton.mp z]at D;have:h0.objs.size<=I:=hI;rw[j]at this;exact absurd (C_ D (Nat.lt_of_succ_le this)) (ri _)
   ·have e1:d.toList=u.map (·.2):=by refine y2 λi=>?_;rw[j_,v_];cases q:d[i]?with|some v=>obtain⟨x,hx,rfl⟩:=it.2 i v q;rw[hx];rfl|none=>have:d.size<=i:=Array.getElem?_eq_none_iff.mp q;rw[it.1]at this;rw[pa (by lia)];rfl
    rw[e1];exact Y.map _
 refine ta (λ_=>?_) (λ_=>e_ ⟨Qg F.plain_extend_loop _,t1 (k h1 0 st (λb o e=>J _ _ (N _ _ e)) O) λr B p=>?_⟩)
 case refine_2=>obtain⟨v,rfl,rfl,h',tk,f,C,rfl,S,G,U⟩:=p;exact a_ (wpAny_load G (e_ (h h' n tk f.toList U S (tl (kl G)))))
 refine a_ (wh (a_ ?_));show wpAny _ _ (updateSeq s.heap.objs.size (·.push .none)>>=λ_=>updateSeq s.heap.objs.size (·.pop)) _ _ _;refine a_ (RY O rfl ?_);have K:=s_ (Obj.mapSeq (·.push Value.none)) O rfl;refine RY (hz:=by seq_fits) K rfl ?_;have Q:=s_ (Obj.mapSeq (·.pop)) K rfl;refine e_ ⟨Qg F.plain_extend_loop _,t1 (k _ _ (W.frame 0 _ _ st λb D o e=>?_) (λb o e=>?_) Q) λr B p=>?_⟩
 ·have H:b≠s.heap.objs.size:=λz=>by
   rcases y _ D with q|q
   ·exact absurd (z.symm.trans q) (ov M)
   ·have:h0.objs.size<=b:=q;rw[j,z]at this;exact absurd this (Nat.not_succ_le_self _)
  exact(t2 _ _ (pv H)).trans ((t2 _ _ (pv H)).trans e)
 ·have H:b≠s.heap.objs.size:=l_ (kl e);exact(t2 _ _ (pv H)).trans ((t2 _ _ (pv H)).trans (J _ _ (N _ _ e)))
 ·obtain⟨v,rfl,rfl,h',tk,f,C,rfl,S,G,U⟩:=p;exact a_ (wpAny_load G (e_ (h h' n tk f.toList U S (tl (kl G)))))
end
end L2
namespace L2
open PySem
structure rQ(led:Bool)(t:SetTable):Prop where
 led:t.led=led
 up:t.plain=true->fV t.place
def rQ.off{led:Bool}{t:SetTable}(x:rQ led t):rQ led {t with plain:=false}:=⟨x.led,λh=>by cases h⟩
def G5{t:SetTable}{j:Nat}(h:t.slot j=.empty\/t.slot j=.dummy):t.place[SetTable.below t.place j]?≠some j:=by intro e;unfold SetTable.slot at h;dsimp only at h;rw[kw (by rw[e];simp)]at h;rcases h with h|h<;>cases h
theorem oK:∀(fuel:Nat)(p:SetTable.Probe)(j:Nat)(d:Option Nat),(∀x,p.dummy=some x->t.slot x=.dummy)->SetTable.probe.go t l h fuel p=some (.empty j d)->t.slot j=.empty/\∀x,d=some x->t.slot x=.dummy|0,p,j,d,c,e=>by unfold SetTable.probe.go at e;cases e|fuel+1,p,j,d,c,e=>by unfold SetTable.probe.go at e;cases a:t.slot p.j with
 |empty=>rw[a]at e;injection e with e;injection e with f g;subst f;subst g;exact⟨a,c⟩|dummy=>
   rw[a]at e;refine oK fuel _ j d (λx b=>?_) e;have:(t.advance {p with dummy:=some p.j}).dummy=some p.j:=by
    unfold SetTable.advance
    split<;>rfl
   rw[this]at b;cases b;exact a|live i=>
   rw[a]at e;dsimp only at e
   split at e
   ·cases e
   ·refine oK fuel _ j d (λx b=>c x ?_) e;have:(t.advance p).dummy=p.dummy:=by
     unfold SetTable.advance
     split<;>rfl
    rw[this]at b;exact b
def Fd{t:SetTable}{h:Int}{sl:Nat}{wd:Bool}(e:t.freeSlot h=some (sl,wd)):t.place[SetTable.below t.place sl]?≠some sl:=by unfold SetTable.freeSlot at e;cases a:t.probe (λ_=>h+1) h (t.probeStart h)with|none=>rw[a]at e;cases e|some m=>rw[a]at e;cases m with|candidate _ _ _=>cases e|empty j d=>have:=oK (10*SetTable.turns t.mask) (t.probeStart h) j d (λx b=>by cases b) a;injection e with e;injection e with c f;subst c;refine G5 ?_;cases d with|none=>exact .inl this.1|some x=>exact .inr (this.2 x rfl)
def gd(a:Array Nat)(i:Nat):a.getD i 0=(a.toList[i]?).getD 0:=by rw[v_,Array.getD_eq_getD_getElem?]
def Cb{l:Sf}(h:l.Pairwise (·<·)):fV l.toArray:=by intro i j a b;rw[lh]at b;have:=List.pairwise_iff_getElem.mp h i j (by lia) b a;rw[gd,gd];show(l[i]?).getD 0<(l[j]?).getD 0;rw[h_ b,h_ (show i<l.length by lia)];exact this
def Bi(c:p<=a.size):(SetTable.insertAt a p x).getD k 0=if k<p then a.getD k 0 else if k=p then x else if k<a.size+1 then a.getD (k-1) 0 else 0:=by
 have e:(SetTable.insertAt a p x).toList=a.toList.take p++x::a.toList.drop p:=by rw[SetTable.toList_insertAt]
 rw[gd,e];have b:(a.toList.take p).length=p:=by rw[oe,n_];lia
 by_cases h1:k<p
 ·rw[kw h1,so (by lia),List.getElem?_take,kw h1,gd]
 ·rw[ku h1,z7 (by lia),b]
  by_cases h2:k=p
  ·rw[kw h2,h2,Nat.sub_self];rfl
  ·rw[ku h2];obtain⟨m,rfl⟩:∃m,k=p+(m+1):=⟨k-p-1,by lia⟩;rw[show p+(m+1)-p=m+1 by lia,List.getElem?_cons_succ,RA]
   by_cases h3:p+(m+1)<a.size+1
   ·rw[kw h3,gd,show p+(m+1)-1=p+m by lia]
   ·rw[ku h3,pa (by rw[n_];lia)];rfl
def HL(c:p<=a.size):(SetTable.insertAt a p x).size=a.size+1:=by rw[<-n_,(SetTable.insertAt_perm a p x).length_eq,n_,Array.size_push]
def EA{t:SetTable}{sl:Nat}(r:fV t.place)(h:t.place[SetTable.below t.place sl]?≠some sl):fV (t.put sl).1.place:=by
 obtain⟨b1,b2,b3⟩:=rP r sl;show fV (SetTable.insertAt t.place (SetTable.below t.place sl) sl);generalize SetTable.below t.place sl=p at h b1 b2 b3;have b4:∀k,p<=k->k<t.place.size->sl<t.place.getD k 0:=by
  intro k d a;have e:t.place[p]?=some (t.place.getD p 0):=by rw[vl (by lia)];simp[Array.getD,show p<t.place.size by lia]
  have f:t.place.getD p 0≠sl:=λz=>h (by rw[e,z]);have h1:=b3 p (f_ _) (by lia);have h2:=r.le d a;lia
 intro i j b c;rw[HL b1]at c;rw[Bi b1,Bi b1]
 by_cases h1:j<p
 ·rw[kw (by lia),kw h1];exact r i j b (by lia)
 ·rw[ku h1]
  by_cases h2:j=p
  ·rw[kw h2,kw (by lia)];exact b2 i (by lia)
  ·rw[ku h2,kw c]
   by_cases h3:i<p
   ·rw[kw h3];have:=b2 i h3;have:=b4 (j-1) (by lia) (by lia);lia
   ·rw[ku h3]
    by_cases h4:i=p
    ·rw[kw h4];exact b4 (j-1) (by lia) (by lia)
    ·rw[ku h4,kw (by lia)];exact r (i-1) (j-1) (by lia) (by lia)
def rQ.lay{led:Bool}{t:SetTable}(x:rQ led t)(c:Array (Int×Value))(h:Int)(v:Value):rQ led (layNew t c h v).2.1:=by
 refine⟨(LT t c h v).1.trans x.led,?_⟩;unfold layNew
 split
 ·rename_i sl wd e;intro a;dsimp only at a⊢;unfold SetTable.orStandIn at a⊢
  split
  ·rename_i b;rw[kw b]at a;exact EA (x.up a) (Fd e)
  ·rename_i b;rw[ku b]at a;cases a
 ·intro a;cases a
def rQ.relay{led:Bool}{t:SetTable}(x:rQ led t)(f:Array (Int×Value))(n:Nat):rQ led (relayAll t f n).2.1:=by
 refine⟨(FX t f n).1.trans x.led,?_⟩;unfold relayAll
 split
 ·rename_i m o e;dsimp only
  split
  ·intro _;unfold SetTable.relaid SetTable.laid at e;cases hc:SetTable.layClean (SetTable.sizeAbove n-1) (f.map (·.1))with|none=>rw[hc]at e;cases e|some ow=>
    rw[hc]at e;cases e;show fV ((((List.range (SetTable.sizeAbove n-1+1)).filterMap λj=>(ow.getD j none).map (j,·)).map (·.1)).toArray);have l:(((List.range (SetTable.sizeAbove n-1+1)).filterMap λj=>(ow.getD j none).map (j,·)).map (·.1)).Pairwise (·<·):=by rw[List.map_filterMap];refine List.Pairwise.filterMap _ (R:=(·<·)) (S:=(·<·)) ?_ List.pairwise_lt_range;intro a b g x c y d;cases i:ow.getD a none with|none=>rw[i]at c;cases c|some v=>cases k:ow.getD b none with|none=>rw[k]at d;cases d|some u=>rw[i]at c;rw[k]at d;cases c;cases d;exact g
    exact Cb l
  ·intro h;cases h
 ·intro h;cases h
end L2
namespace L2
open PySem
section
variable{prog:Sb}{w:World}{c:Type}[DecidableEq c](knd:PySem.KeyKind prog w c)(kOf:Value->c)
structure jZ(led:Bool)(h:Heap)(a:Addr)(ks:List c):Prop where ex:∃o es ep t,h.get? a=some o/\o.ExactSet/\o.data=.set es ep t/\ElemsOf knd es.toList/\(es.toList.map λe=>kOf e.2).Perm ks/\es.size<scanBound/\t.fits es.size=true/\rQ led t
variable{knd kOf}
def jZ.keep(x:jZ knd kOf led h a d)(k:∀o,h.get? a=some o->h'.get? a=some o):jZ knd kOf led h' a d:=by obtain⟨o,b,f,t,e,r⟩:=x.ex;exact⟨o,b,f,t,k o e,r⟩
variable{A:Around}{E:R8}{s:Shared}
def Hm(f:∀k v,knd.is k v=true->kOf v=k)(d:ElemsOf knd g)(h:(g.map λe=>kOf e.2).Perm i)(k:c):k∈i↔∃e∈g,knd.is k e.2=true:=by
 rw[<-h.mem_iff,nk]
 constructor
 ·rintro⟨e,a,rfl⟩;obtain⟨⟨b,h1,_⟩,_⟩:=d e a;refine⟨e,a,?_⟩;rw[f b e.2 h1];exact h1
 ·rintro⟨e,a,h1⟩;exact⟨e,a,f k e.2 h1⟩
def ul{led:Bool}{h:Heap}{a:Addr}{o:Obj}{n d:Array (Int×Value)}{i:Nat}{t f:SetTable}{ks:List c}(p:h.get? a=some o)(j:o.ExactSet)(hd:o.data=.set n i t)(l:ElemsOf knd d.toList)(r:(d.toList.map λe=>kOf e.2).Perm ks)(u:d.size<scanBound)(v:f.fits d.size=true)(x:rQ led f):(h.update a (Obj.putSet d f)).get? a=some {o with data:=.set d (i+1) f}/\jZ knd kOf led (h.update a (Obj.putSet d f)) a ks:=by
 have g:(h.update a (Obj.putSet d f)).get? a=some {o with data:=.set d (i+1) f}:=by
  have q:=s_ (Obj.putSet d f) p (by rw[putSet_of d f hd];rfl)
  rwa[putSet_of d f hd]at q
 exact⟨g,_,d,i+1,f,g,j,rfl,l,r,u,v,x⟩
def IO{led:Bool}{a:Addr}{f:List c}{k:c}{x:Value}{Q:Bool->Shared->Prop}(Z:∀k v,knd.is k v=true->kOf v=k)(i:knd.is k x=true)(y:x.scannable=true)(hS:jZ knd kOf led s.heap a f)(G:f.length+1<scanBound)(h:∀h' b,Heap.SameBut a s.heap h'->jZ knd kOf led h' a (if k∈f then f else f++[k])->Q b {s with heap:=h'}):wpAny (model prog w) A (setAddHashed a x (knd.hash k)) Q E s:=by
 obtain⟨o,D,ep,t,P,H,hd,m,R,hb,hf,ti⟩:=hS.ex;have hn:D.size=f.length:=by rw[<-R.length_eq,c_,n_]
 have p:=Hm Z m R;unfold setAddHashed setAddHashedIn;refine p_ (a_ (J_ P hd hf ?_));dsimp only;rw[byScan_of y hb m,kw rfl];unfold setAddByScan;refine a_ (a_ (wh (a_ (wpAny_setScan_of i P hd hf m ?_))));cases hr:List.findIdx? (λe=>knd.is k e.2) D.toList with|some j=>obtain⟨hj,S,_⟩:=List.findIdx?_eq_some_iff_getElem.mp hr;have B:k∈f:=(p k).mpr ⟨_,Qx hj,S⟩;refine e_ (e_ ?_);have q:=h s.heap false (Heap.SameBut.refl a s.heap);rw[kw B]at q;exact q hS|none=>
  have B:k∉f:=λz=>by obtain⟨e,he,h1⟩:=(p k).mp z;have:=List.findIdx?_eq_none_iff.mp hr e he;rw[h1]at this;cases this
  dsimp only;have q:∀h' b,Heap.SameBut a s.heap h'->jZ knd kOf led h' a (f++[k])->Q b {s with heap:=h'}:=λh' b sb x=>h h' b sb (by rw[ku B];exact x);have F:=layNew_perm t D (knd.hash k) x;have I:=layNew_fits t D (knd.hash k) x;have J:=ti.lay D (knd.hash k) x;generalize hL:layNew t D (knd.hash k) x=L at F I J⊢;obtain⟨d,T,wd,gv⟩:=L;dsimp only at F I J⊢;rw[RO]at F;have u:ElemsOf knd d.toList:=(m.push i y).perm F;have K:(d.toList.map λe=>kOf e.2).Perm (f++[k]):=by refine(F.map _).trans ?_;rw[k_,QO,Z k x i];exact R.append_right _
  have U:d.size=f.length+1:=by rw[<-n_,F.length_eq,kt,n_,hn];rfl
  have n:d.size<scanBound:=by rw[U];exact G
  have say:∀(b:Bool)(V:Shared)(W:Unit->Shared->Prop),W () V->wpAny (model prog w) A (match b with|true=>rule "set.scan.the-table-gave-way"|false=>pure ()) W E V:=λb V W z=>by cases b<;>first|exact e_ z|exact wh z
  have l:∀g:SetTable,g.fits d.size=true->rQ led g->wpAny (model prog w) A (do
 storeSet a d g if(!wd&&g.tooFull)=true then do
      (match(relayAll g d (SetTable.grown d.size)).2.2 with|true=>rule "set.scan.the-table-gave-way"|false=>pure ())storeSet a (relayAll g d (SetTable.grown d.size)).1 (relayAll g d (SetTable.grown d.size)).2.1
      pure (some true)else pure (some true)) (λr s'=>wpAny (model prog w) A (match r with|some C=>pure C|none=>setAddHashedIn a x (knd.hash k) 99999) Q E s') E s:=by
   intro g f2 i2;refine a_ (wpAny_storeSet_of P hd ?_ (fits_of_scanBound n));obtain⟨g1,S1⟩:=ul (knd:=knd) (kOf:=kOf) P H hd u K n f2 i2;have M:=E1 s.heap a (Obj.putSet d g);refine ta (λ_=>?_) (λ_=>e_ (e_ (q _ _ M S1)));have N:=relayAll_perm g d (SetTable.grown d.size);have r2:=relayAll_fits g d (SetTable.grown d.size);have X:=i2.relay d (SetTable.grown d.size);generalize relayAll g d (SetTable.grown d.size)=Rl at N r2 X⊢;obtain⟨Y,t3,aa⟩:=Rl;dsimp only at N r2 X⊢;have O:Y.size=d.size:=by rw[<-n_,N.length_eq,n_]
   refine a_ (say _ _ _ ?_);refine a_ (wpAny_storeSet_of (s:={s with heap:=s.heap.update a (Obj.putSet d g)}) g1 rfl ?_ (fits_of_scanBound (by rw[O];exact n)));obtain⟨_,S2⟩:=ul (knd:=knd) (kOf:=kOf) (ks:=f++[k]) g1 H rfl (u.perm N) ((N.map _).trans K) (by rw[O];exact n) r2 X;exact e_ (e_ (q _ _ (M.trans (E1 _ a _)) S2))
  refine a_ (say _ _ _ ?_)
  split
  ·refine a_ ?_;rw[hashByValue_scannable 8 y];refine e_ ?_;cases ad:plainKind x with|true=>exact l T I J|false=>exact l {T with plain:=false} (SetTable.fits_plain_off I) J.off
  ·exact a_ (e_ (l T I J))
end
end L2
namespace L2
open PySem PySem.Spec PyProof.Rows
section
variable{prog:Sb}{w:World}{A:Around}{E:R8}{s:Shared}
def Kl(v:Value)(h:Q₁ (.ref s.heap.objs.size) {s with heap:=s.heap.push (be (!w.params.followText "set-order"))}):codeAny (model prog w) A (.call (.builtin "set.__new__") ⟨[.type "set",v],[]⟩) (wants Q₁ E) s:=by refine Rg (show wpAny _ A.in1 (do checkBuiltinCall "set.__new__" ⟨[.type "set",v],[]⟩;again (.builtin "set.__new__" ⟨[.type "set",v],[]⟩)) _ _ s from ?_);refine a_ (wpAny_of_eq (F.newCall_set_1 v) (e_ ⟨Qg F.plain_set_new _,u1 F.entry_set_new ?_⟩));rw[x_ F.plain_set_new _];unfold Builtin.«set.__new__»Builtin.Frozenset.newClass;have a:=sub_set_self;obtain⟨b,g,d,tk,os⟩:=s;dsimp only;wp_walk;refine Qc (e_ ?_);dsimp only;simp only[newObj];exact a_ (wpAny_alloc (e_ (e_ h)))
end
section
variable{prog:Sb}{w:World}{A:Around}{R:Result->Shared->Prop}{c:Type}[DecidableEq c][BEq c][LawfulBEq c]{j a:Addr}{fp g:Sg}{G:Array GenState->Array GenState->Prop}{n:Nat}{P:Nat->Value->Prop}{St:Nat->Shared->Prop}
def Fj(l:List c)(x:c)[d:Decidable (x∈l)]:(if x∈l then l else l++[x])=step_dedup l x:=by
 unfold step_dedup
 by_cases h:x∈l
 ·have q:(l.any λy=>y==x)=true:=Q9.mpr ⟨x,h,t0 x⟩;rw[kw h,kw q]
 ·have q:¬(l.any λy=>y==x)=true:=λz=>h (by obtain⟨y,b,q⟩:=Q9.mp z;rw[<-eq_of_beq q];exact b);rw[ku h,ku q]
def Fe(l:PySem.KeyKind prog w c)(kOf:Value->c)(led:Bool)(I:∀k v,l.is k v=true->kOf v=k)(q:WalksS prog w A.in1 j fp g G n P St)(C:a∉fp)(h:Nat->c)(r:∀i v,P i v->l.is (h i) v=true/\v.scannable=true)(D:n+1<scanBound):∀(d i:Nat)(s:Shared),n-i=d->i<=n->St i s->jZ l kOf led s.heap a (lX h i)->(∀p,Moved (a::g) G s p->jZ l kOf led p.heap a (lX h n)->R (.ok (.ret .none)) p)->codeAny (model prog w) A (.builtin "set.update.loop" ⟨[.ref a,.ref j],[]⟩) R s:=by
 have aw:a∉g:=λz=>C (q.sub _ z);have up:∀b∈g,b∈a::g:=λb z=>k4 _ z;intro d
 induction d with|zero=>
  intro i s hd hi st f k;obtain rfl:i=n:=by lia
  refine u1 Qm ?_;rw[x_ y_ _];refine a_ (m:=pyNext (.ref j)) (q.done s _ _ st λp t=>?_);exact e_ (k p (t.mono up) (f.keep λo e=>t.heap a o aw e))|succ d J=>
  intro i s hd hi st f k;have lt:i<n:=by lia
  refine u1 Qm ?_;rw[x_ y_ _];refine a_ (m:=pyNext (.ref j)) (q.item i s _ _ lt st λv p Y u t=>?_);obtain⟨E,K⟩:=r i v Y;have L:jZ l kOf led p.heap a (lX h i):=f.keep λo e=>t.heap a o aw e;refine a_ (m:=holding [v] (setAdd a v)) (p_ ?_);unfold setAdd;refine p_ (a_ (l.pyHash (k:=h i) E ?_));have M:(lX h i).length+1<scanBound:=by have:=AV h i;lia
  refine IO (s:={p with toks:=p.toks+1}) I E K L M λh' O H f2=>?_;rw[Fj,<-mW]at f2;refine e_ ⟨Qg y_ _,J (i+1) _ (by lia) lt (q.frame _ p _ _ u (r3 _) λb z o e=>?_) f2 λx y N=>?_⟩
  ·exact(H.2 b λB=>C (B▸z)).trans e
  ·refine k x (Moved.trans q.gtrans ((t.mono up).then_heap (r3 _) λb o z e=>?_) y) N;exact(H.2 b λB=>z (B▸mm)).trans e
end
section
variable{prog:Sb}{w:World}{A:Around}{E:R8}{s:Shared}{d:Type}[DecidableEq d][BEq d][LawfulBEq d]
set_option maxHeartbeats 3200000 in
def zd(n:PySem.KeyKind prog w d)(kOf:Value->d)(P:∀k v,n.is k v=true->kOf v=k)(hh:A.handled=none)(S:s.heap.IsList l h)(t:∀i v,h[i]?=some v->n.is (key i) v=true/\v.scannable=true)(x:h.size+1<scanBound)(k:∀(h':Heap)(tk:Nat),jZ n kOf (!w.params.followText "set-order") h' s.heap.objs.size (lX key h.size)->(∀b o,s.heap.get? b=some o->h'.get? b=some o)->Q (.ref s.heap.objs.size) {s with heap:=h',toks:=tk}):wpAny (model prog w) A (call (.type "set") [.ref l]) Q E s:=by
 obtain⟨c,Z,I⟩:=F.called_set.mro;have made:=F.called_set.made;have sub:=F.called_set.sub;have nt:=F.called_set.notType;have cc:=F.called_set.canCreate;have tc:=RU (.ref l);refine Q_ (Rg ?_);show wpAny _ _ (callAny (.type "set") _) _ _ _;refine e_ ⟨RC _ (by decide+kernel),u1 RM ?_⟩;rw[RD (Rk "set" [.ref l] []) rfl]
 (repeat(any_goals(first|assumption|wp_step)));skip
 refine t1 (Kl (.ref l) (E:=E) (Q₁:=λu s₁=>u=.ref s.heap.objs.size/\s₁={s with heap:=s.heap.push (be (!w.params.followText "set-order"))}) ⟨rfl,rfl⟩) λr s₁ C=>?_;cases r with|error e=>exact C|ok O=>cases O with
 |ret u=>
   obtain⟨rfl,rfl⟩:=C;have K:(s.heap.push (be (!w.params.followText "set-order"))).get? s.heap.objs.size=some (be (!w.params.followText "set-order")):=g_ _ rfl;have ty:Shared.TypeIs {s with heap:=s.heap.push (be (!w.params.followText "set-order"))} (.ref s.heap.objs.size) "set":=⟨_,K,rfl⟩;have li:=F.called_set.init.lookup;have bi:=F.called_set.init.bind (.ref s.heap.objs.size)
   (repeat(any_goals(first|assumption|wp_step)));skip
   refine t1 (Rs (R:=wants (λr m=>r=.none/\∃h' tk,m={s with heap:=h',toks:=tk}/\jZ n kOf (!w.params.followText "set-order") h' s.heap.objs.size (lX key h.size)/\∀b o,s.heap.get? b=some o->h'.get? b=some o) E) F.called_set.init.plain RW (RR ty ?_)) λy m j=>?_
   ·obtain⟨⟨cl,T,dt,sl⟩,e,L,M,N⟩:=id S;simp only at L N;subst L;subst N;have U:(s.heap.push (be (!w.params.followText "set-order"))).get? l=some {cls:=.type "list",dict:=T,data:=.seq h M,slots:=sl}:=b_ _ e;have s1:=F.sub_list_set;have s2:=F.sub_list_frozenset;have ne:(Value.type "list"==Value.type "dict")=false:=by decide
    have z:(s.heap.push (be (!w.params.followText "set-order"))).IsList l h:=⟨_,U,rfl,M,rfl⟩;unfold Builtin.«set.__init__»noKeywords Builtin.Frozenset.updateFrom;generalize D:pyIter=PI;wp_walk;subst D;refine K_ z ?_;refine a_ (Rp ?_);have lt:l<s.heap.objs.size:=kl e;have sz:(s.heap.push (be (!w.params.followText "set-order"))).objs.size=s.heap.objs.size+1:=op ..;refine Fe n kOf (!w.params.followText "set-order") P ((Walks.list (A:=A.in1.in1.in1) (by simp[hh]) _ l (by rw[sz];exact l_ (r_ lt)) h).toS) (a:=s.heap.objs.size) (by rw[sz];simp only[pw,oi,vr,not_or];exact⟨l_ (rV _),ov lt⟩) key t x (h.size-0) 0 _ (by lia) (n0 _) ⟨⟨_,g_ _ rfl,rfl,rfl⟩,z.push _⟩ ?f0 ?fR
    case f0=>have g:((s.heap.push (be (!w.params.followText "set-order"))).push {cls:=.type "list_iterator",data:=.fields #[.ref l,.int 0 0]}).get? s.heap.objs.size=some (be (!w.params.followText "set-order")):=b_ _ K;exact⟨_,#[],0,_,g,⟨rfl,rfl,rfl⟩,rfl,λe V=>by simp at V,Rv _,by decide,by rfl,⟨rfl,λ_=>fV.few (n0 _)⟩⟩
    case fR=>rintro⟨h',W,X,G,H⟩B f;obtain rfl:W=s.gens:=B.gens;obtain rfl:X=s.drawn:=B.drawn;obtain rfl:H=s.os:=B.os;show wpAny _ _ _ _ _ _;refine e_ (show wpAny _ _ (ret Value.none) _ _ _ from e_ ⟨rfl,h',G,rfl,f,λb o q=>?_⟩);have b1:b<s.heap.objs.size:=kl q;exact B.heap b o (by rw[sz];simp only[pw,oi,vr,not_or];exact⟨l_ b1,l_ (r_ b1)⟩) (b_ _ (b_ _ q))
   ·cases y with|error e=>exact j|ok p=>cases p with|ret r=>
      obtain⟨rfl,h',tk,rfl,f,Y⟩:=j
      (repeat(any_goals(first|assumption|wp_step)));exact k _ _ f Y|_=>exact j.elim
  |_=>exact C.elim
end
end L2
namespace L2
open PySem PySem.Spec PyProof.Rows
section
variable{prog:Sb}{w:World}{A:Around}{E:R8}{s:Shared}
def Gv(hh:A.handled=none)(l:fD s.heap a f y t)(hn:f.size<=sizeLine)(n:w.params.followText "set-order"=false->t.led=true)(p:t.plain=true->fV t.place)(h:∀(h1:Heap)(d:Drawn)(tk:Nat)(c:Sa),c.Perm (f.toList.map (·.2))->(∀b o,s.heap.get? b=some o->h1.get? b=some o)->s.heap.objs.size<=h1.objs.size->(h1.push (seqObj "list" c.toArray 0)).get? h1.objs.size=some (seqObj "list" c.toArray 0)->wpAny (model prog w) A.in1.in1 (Builtin.«list.sort» ⟨[.ref h1.objs.size],[]⟩) (λfin i=>∃v,fin=.done (.ret v)/\Q (.ref h1.objs.size) i) E {s with heap:=h1.push (seqObj "list" c.toArray 0),drawn:=d,toks:=tk}):wpAny (model prog w) A (call (.builtin "sorted") [.ref a]) Q E s:=by
 refine Calls.call_function_entry kind_sorted plain_sorted entry_sorted (args_sorted1 _) ?_;unfold Builtin.«sorted»;refine a_ (m:=checkCount "sorted" 1 1 _) (e_ ?_);refine a_ (Bt (A:=A.in1) hh l hn n p λh1 d tk c j k r=>?_);have u:c.length=f.size:=by rw[j.length_eq,c_,n_]
 refine a_ (wpAny_newList ?_ (by rw[u];exact hn));have g:(h1.push (seqObj "list" c.toArray 0)).get? h1.objs.size=some (seqObj "list" c.toArray 0):=g_ _ rfl;refine a_ (p_ (qr slot_list_sort (s:={s with heap:=h1.push (seqObj "list" c.toArray 0),drawn:=d,toks:=tk}) ⟨_,g,rfl⟩ entry_list_sort (wpAny_mono (h h1 d tk c j k r g) (λfin i x=>?_) λ_ _ e=>e) (args_list_sort _)));obtain⟨v,rfl,q⟩:=x;exact⟨v,rfl,e_ ⟨_,rfl,q⟩⟩
def Bl{h1:Heap}{vs:Sa}{out:Se}:(∀b o,h1.get? b=some o->(sortedHeap (h1.push (seqObj "list" vs.toArray 0)) h1.objs.size vs out).get? b=some o)/\∃e,(sortedHeap (h1.push (seqObj "list" vs.toArray 0)) h1.objs.size vs out).get? h1.objs.size=some (seqObj "list" out e):=by have g:(h1.push (seqObj "list" vs.toArray 0)).get? h1.objs.size=some (seqObj "list" vs.toArray 0):=g_ _ rfl;refine⟨λb o e=>?_,sortedHeap_at g⟩;have a:b<h1.objs.size:=kl e;rw[sortedHeap_old (l_ a) (by rw[op];exact r_ a)];exact b_ _ e
end
end L2
namespace L2
open PySem PySem.Spec PyProof.Rows
def kOf:Value->cg|.int i _=>.inl i|.str x _=>.inr x|_=>.inl 0
def HH(P:Sb)(w:World):∀(k:cg)(v:Value),(aK P w).is k v=true->kOf v=k:=λk v h=>by rcases cC h with⟨i,t,rfl,rfl⟩|⟨x,t,rfl,rfl⟩<;>rfl
abbrev Ex(P:Sb)(w:World)(q:Addr)(a:List cg):HO:=.ext λh=>jZ (aK P w) kOf (!w.params.followText "set-order") h q a
theorem aL.drawn(I:aL X a c H s)(d:Drawn):aL X a c H {s with drawn:=d}:=⟨I.ok,I.os,I.bare,I.base,I.loc,I.cell,I.free,I.freeC,I.pin,I.hok,I.len⟩
theorem xt:∀{a:Sa}{c:Sc},StrsAre a c->a9 (c.map V.str) a|_,_,.nil=>.nil|_,_,.cons x t h=>.cons ⟨t,rfl⟩ (xt h)
section
variable{X:Cx}
def Fv(hc:X.calm=true):cO X (.type "set") (λd H Q=>∃(p:Addr)(a:List cg),d=[.ref p]/\aX X.K H p (a.map kV)/\a.length<4000/\∀q,H q=none->Q (.ref q) (aA H q (Ex X.prog X.w q (dd a)))):=by
 intro j s B H d C Q I r h;obtain⟨p,a,rfl,n,k,q⟩:=h;obtain⟨u,rfl,t⟩:=jJ r;cases t;obtain⟨b,l,pl,D⟩:=I.list n;have m:=l.length;rw[c_]at m;refine zd (aK X.prog X.w) kOf (HH _ _) (key:=λi=>a.getD i (.inl 0)) (I.ok.hd hc) pl.isList (λi v c=>?_) (by rw[lh];unfold scanBound;omega) λh' tk f z=>?_
 ·have c:b[i]?=some v:=by simpa using c
  have hi:i<b.length:=(d_.mp c).1;obtain⟨u,h1,h2⟩:=l.get (i:=i) (x:=kV (a[i]'(by lia))) (by rw[j_,h_ (by lia)];rfl);rw[c]at h1;cases h1;have e:a.getD i (.inl 0)=a[i]'(by lia):=by simp[List.getD,h_ (show i<a.length by lia)]
  show(aK X.prog X.w).is (a.getD i (.inl 0)) v=true/\_;rw[e,oF];exact ze h2
 ·rw[show b.toArray.size=a.length by rw[lh];exact m.symm,yR]at f;refine⟨.ref s.heap.objs.size,_,I.laid (h':=h') (t':=tk) (o:=Ex X.prog X.w s.heap.objs.size (dd a)) z (f_ _) ⟨f,?_,λh1 h2 g A=>g.keep A⟩,rfl,q _ (I.hok.fresh (f_ _))⟩;obtain⟨o,_,_,_,e,_⟩:=f.ex;exact⟨o,e⟩
def Mo(f:jZ (aK P w) kOf led h a g):∃c d t,fD h a c d t/\c.size=g.length/\(c.toList.map λe=>kOf e.2).Perm g/\rQ led t/\∀e∈c.toList,nH (kOf e.2) e.2=true:=by obtain⟨o,c,d,t,e,ex,hd,b,pm,_,i,j⟩:=f.ex;refine⟨c,d,t,⟨⟨o,e,ex.1,hd⟩,i⟩,by rw[<-pm.length_eq,c_,n_],pm,j,λx l=>?_⟩;obtain⟨⟨k,h1,_⟩,_⟩:=b x l;rw[HH P w k x.2 h1];exact h1
variable{P:Sb}{w:World}
def Dh(K:R7)(c:X.K=K)(hc:X.calm=true)(d:X.prog=P:=by rfl)(e:X.w=w:=by rfl):cO X (.type "set") (λf H Q=>∃(p:Addr)(a:List cg),f=[.ref p]/\aX K H p (a.map kV)/\a.length<4000/\∀q,H q=none->Q (.ref q) (aA H q (Ex P w q (dd a)))):=by subst c;subst d;subst e;exact Fv hc
end
end L2
namespace L2
open PySem PySem.Spec PyProof.Rows
section
variable{prog:Sb}{w:World}{A:Around}{E:R8}{s:Shared}
def m9(a b:Str):Prop:=¬b.cps.toList<a.cps.toList
def wj(g:StrsAre d v)(h:a.Perm (pairsOf d))(n:SortedToK strKind a (pairsOf d).size):∃c,StrsAre (a.map (·.2)).toList c/\c.Perm v/\c.Pairwise m9:=by
 obtain⟨o,h1,h2,_⟩:=sorted_out_str g h n;refine⟨o,h1,h2,?_⟩;have z:a.toList.Perm (d.zip d):=by rw[<-pairsOf_toList];exact Array.perm_iff_toList_perm.mp h
 have b:∀p,p∈a.toList->p.1=p.2/\p.1∈d:=λp k=>mem_zip_self (z.mem_iff.mp k);have e:o=a.toList.map λp=>strOf p.2:=by rw[<-h1.strs,Array.toList_map,w1];rfl
 rw[e,List.pairwise_iff_getElem];intro i j hi B l;have m:i<a.size:=by simpa using hi
 have f:j<a.size:=by simpa using B
 have q:=n i j (tl l) (by rw[<-h.size_eq];exact f);obtain⟨x,t,ex⟩:=g.all _ (b a[i] (by simp)).2;obtain⟨y,u,r⟩:=g.all _ (b a[j] (by simp)).2;rw[KK_str m (x:=x) (t:=t) (q:=a[i].2) (Prod.ext ex rfl),KK_str f (x:=y) (t:=u) (q:=a[j].2) (Prod.ext r rfl)]at q
 change decide (y.cps.toList<x.cps.toList)=false at q
 simp only[RT,Array.getElem_toList];have C:strOf a[i].2=x:=by rw[<-(b a[i] (by simp)).1,ex];rfl
 have D:strOf a[j].2=y:=by rw[<-(b a[j] (by simp)).1,r];rfl
 unfold m9;rw[C,D];exact of_decide_eq_false q
def um(hh:A.handled=none)(r:fD s.heap a f P t)(u:f.size<64)(y:w.params.followText "set-order"=false->t.led=true)(B:t.plain=true->fV t.place)(C:∀e∈f.toList,∃x t,e.2=Value.str x t)(h:∀(D:Addr)(h':Heap)(F:Drawn)(tk e:Nat)(out:Sa)(i:Sc),s.heap.objs.size<=D->(∀b o,s.heap.get? b=some o->h'.get? b=some o)->h'.get? D=some (seqObj "list" out.toArray e)->StrsAre out i->i.Perm (f.toList.map λe=>strOf e.2)->i.Pairwise m9->Q (.ref D) {s with heap:=h',drawn:=F,toks:=tk}):wpAny (model prog w) A (call (.builtin "sorted") [.ref a]) Q E s:=by
 refine Gv hh r (by rw[lm];lia) y B λh1 G tk c j H I g=>?_;have R:c.length=f.size:=by rw[j.length_eq,c_,n_]
 have k:StrsAre c (c.map strOf):=strsAre_map c λv hm=>by obtain⟨e,J,rfl⟩:=nk.mp (j.mem_iff.mp hm);exact C e J
 refine list_sort_treeK strKind_oneLt g k.keysOf (λp q mj e=>keyKind_strs (by rw[<-e];exact k)) (by lia) λd l m=>⟨_,rfl,?_⟩;obtain⟨n,K,L,M⟩:=wj k l m;obtain⟨N,e,O⟩:=Bl (h1:=h1) (vs:=c) (out:=(arrOf d).map (·.2));refine h h1.objs.size _ G tk e ((arrOf d).map (·.2)).toList n I (λb o z=>N b o (H b o z)) ?_ K (L.trans ?_) M
 ·rw[Array.toArray_toList];exact O
 ·have:=j.map strOf;rw[w1]at this;exact this
end
section
variable{X:Cx}
def Bv(hc:X.calm=true):cO X (.builtin "sorted") (λj H Q=>∃(p:Addr)(a:Sc),j=[.ref p]/\H p=some (Ex X.prog X.w p (a.map Sum.inr))/\a.length<64/\∀(q:Addr)(c:Sc),H q=none->c.Perm a->c.Pairwise m9->Q (.ref q) (aA H q (.lst (c.map V.str)))):=by
 intro l s N H j O Q I r h;obtain⟨p,a,rfl,C,hn,q⟩:=h;obtain⟨u,rfl,E⟩:=jJ r;cases E;obtain⟨f,_,_⟩:=I.hok p _ C;obtain⟨m,P,t,F,n,pm,v,G⟩:=Mo f;rw[c_]at n;have A:∀e∈m.toList,∃x t,e.2=Value.str x t:=λe d=>by
  have hm:kOf e.2∈a.map Sum.inr:=pm.mem_iff.mp (nk.mpr ⟨e,d,rfl⟩);obtain⟨x,_,b⟩:=nk.mp hm;rcases cC (G e d)with⟨i,t,h1,h2⟩|⟨y,t,h1,h2⟩
  ·rw[h1]at b;cases b
  ·exact⟨y,t,h2⟩
 refine um (I.ok.hd hc) F (by lia) (λz=>by rw[v.led,z];rfl) v.up A λD h' J tk e out c B K g sa sp L=>?_;have sl:c.length=a.length:=by rw[sp.length_eq,c_,n_,n]
 have ex:(m.toList.map λe=>strOf e.2).Perm a:=by
  have h1:=pm.map (λk:cg=>match k with|.inr x=>x|.inl _=>(⟨#[]⟩:Str));rw[w1,w1]at h1;have M:(a.map ((λk:cg=>match k with|.inr x=>x|.inl _=>(⟨#[]⟩:Str))∘Sum.inr))=a:=by rw[show((λk:cg=>match k with|.inr x=>x|.inl _=>(⟨#[]⟩:Str))∘Sum.inr)=id from rfl,List.map_id]
  rw[M]at h1;refine(R5 (Qf λe d=>?_)).trans h1;obtain⟨x,t,b⟩:=A e d;rw[b];show strOf (Value.str x t)=(match kOf e.2 with|.inr x=>x|.inl _=>(⟨#[]⟩:Str));rw[b];rfl
 refine⟨.ref D,_,(I.drawn J).laid (h':=h') (t':=tk) (o:=.lst (c.map V.str)) K B ⟨?_,out,e,xt sa,g⟩,rfl,q D c (I.hok.fresh B) (sp.trans ex) L⟩;rw[c_,sl,lm];lia
def zA(hc:X.calm=true)(d:X.prog=P:=by rfl)(e:X.w=w:=by rfl):cO X (.builtin "sorted") (λf H Q=>∃(p:Addr)(a:Sc),f=[.ref p]/\H p=some (Ex P w p (a.map Sum.inr))/\a.length<64/\∀(q:Addr)(c:Sc),H q=none->c.Perm a->c.Pairwise m9->Q (.ref q) (aA H q (.lst (c.map V.str)))):=by subst d;subst e;exact Bv hc
end
section
variable{X:Cx}
end
end L2
namespace L2
open PySem PySem.W PyProof.Rows
def sN(P:Sb)(w:World):BS:=λouter H s E e a=>∃(d:Addr)(C:Value)(B:Heap)(t:Addr)(c:Hp),e=.ref d/\a.os=s.os/\AllBare a.gens/\Un (jG outer) [] H c s.heap a.heap/\lY P w c a.heap/\Heap.FlyingW B outer d C (.ref t) a.heap/\(∀b o,c b=some o->∃u,B.get? b=some u)/\(∀b o,s.heap.get? b=some o->b∉jG outer->∃u,B.get? b=some u)/\E C none c
def Bn(h:env.frame=some L):jG (env::l)=L::jG l:=by unfold jG;rw[QJ,h]
def lY.flown{P:Sb}{w:World}{H:Hp}{h h' B:Heap}(x:lY P w H h)(c:∀b o,H b=some o->∃u,B.get? b=some u)(k:B.StaysIn h)(l:B.StaysIn h'):lY P w H h':=λa o e=>(x a o e).stay (λb u d q=>by
  obtain⟨f,g⟩:∃f,H b=some f:=by
   rcases d with rfl|d
   ·exact⟨_,e⟩
   ·exact⟨_,d⟩
  obtain⟨v,i⟩:=c b f g;have j:=k b v i;rw[q]at j;cases j;exact l b _ i) (λ_ q=>q) λ_ _ q=>q
section
variable{P:Sb}{w:World}{K:R7}{mg:R_}{base:Heap}{N:Sc}{a:Str}{scope:Scope}{f:Addr}{cd:Value}{A:Around}{outer:List Env}{c:Shared}{d:Hp}{E:XK}
def eE:lM (sN P w) (rE (sN P w) P w K mg base N a scope f cd A outer c d E) E:=by
 rintro O X H s e G I⟨J,C,B,t,Q,rfl,os,bare,un,hok,r,m,h,q⟩;have v:(envOfC a scope c.heap.objs.size f cd).frame=some c.heap.objs.size:=rfl;have x:jG (envOfC a scope c.heap.objs.size f cd::outer)=c.heap.objs.size::jG outer:=Bn v;have j:Un (jG outer) [] d H c.heap s.heap:=I.base;have un:Un (jG (envOfC a scope c.heap.objs.size f cd::outer)) [] H Q s.heap G.heap:=un;have h:∀b o,s.heap.get? b=some o->b∉jG (envOfC a scope c.heap.objs.size f cd::outer)->∃u,B.get? b=some u:=h;have r:Heap.FlyingW B (envOfC a scope c.heap.objs.size f cd::outer) J C (.ref t) G.heap:=r;have y:∀b o,c.heap.get? b=some o->b∉jG outer->b∉jG (envOfC a scope c.heap.objs.size f cd::outer):=λb o e g hm=>by
  rw[x]at hm;rcases pw.mp hm with rfl|hm
  ·exact absurd (kl e) (ri _)
  ·exact g hm
 have p:∀b o,c.heap.get? b=some o->b∉jG outer->∃u,B.get? b=some u:=λb o e g=>by obtain⟨L,i⟩:=j.there b o e (by simp);exact h b L i (y b o e g)
 show wpAny (model P w) (A.deeper (envOfC a scope c.heap.objs.size f cd)) (leaving (envOfC a scope c.heap.objs.size f cd) (.ref J)) _ _ G;refine wpAny_leaves_onW (outer:=outer) I.ok.frames v r λh' k up=>?_;refine⟨J,C,B,t,Q,rfl,os.trans I.os,bare,?_,hok.flown m r.1 k.1,k,m,p,q⟩;have slot:∀b o,c.heap.get? b=some o->d b=none->b∈jG outer->∃sl,h'.get? b=some {o with slots:=sl}:=λb o e n g=>by
  obtain⟨sl,i⟩:=j.slot b o e n g (by simp);have n1:=j.free b o e n (by simp);obtain⟨T,z⟩:=un.slot b _ i n1 (by rw[x];exact k4 _ g) (by simp);obtain⟨_,R,l,hd⟩:=I.ok.funs.mem g;have:R=o:=by have l:c.heap.get? b=some R:=l;rw[e]at l;exact(m_ l).symm
  subst this;obtain⟨M,D⟩:=up b _ z hd;exact⟨M,D⟩
 refine⟨λb o e n g _=>?_,λb o e n g _=>slot b o e n g,λb o e n _=>?_,λb o e _=>?_,λb S e=>un.tups b S (j.tups b S e),λb o u e=>un.frzs b o u (j.frzs b o u e),λb U e=>?_⟩
 ·have i:=j.keep b o e n g (by simp);have n1:=j.free b o e n (by simp);have z:=un.keep b o i n1 (y b o e g) (by simp);obtain⟨u,F⟩:=p b o e g;have D:=r.1 b u F;rw[z]at D;cases D;exact k.1 b _ F
 ·obtain⟨L,i⟩:=j.there b o e (by simp);exact un.free b L i (j.free b o e n (by simp)) (by simp)
 ·by_cases g:b∈jG outer
  ·have n:d b=none:=I.ok.frf b g;obtain⟨sl,i⟩:=slot b o e n g;exact⟨_,i⟩
  ·obtain⟨u,F⟩:=p b o e g;exact⟨u,k.1 b u F⟩
 ·obtain⟨V,i⟩:=j.tbls b U e;obtain⟨W,z⟩:=un.tbls b _ i;exact⟨V++W,by rw[z,Array.append_assoc]⟩
end
def cX.held{P:Sb}{w:World}{H:Hp}{h:Heap}{a:Addr}{o:HO}(x:cX P w H h a o):∃u,h.get? a=some u:=by cases o with|lst c=>obtain⟨_,_,_,_,e⟩:=x;exact⟨_,e⟩|tup c=>obtain⟨_,_,_,_,e,_⟩:=x;exact⟨_,e⟩|dK b=>obtain⟨_,_,_,_,o,_,_,e,_⟩:=x;exact⟨_,e⟩|dT b=>obtain⟨_,_,_,_,o,_,_,e,_⟩:=x;exact⟨_,e⟩|set S n=>obtain⟨o,_,_,_,e,_⟩:=x;exact⟨_,e⟩|ins C dx fs=>obtain⟨_,_,_,e,_⟩:=x;exact⟨_,e⟩|own y=>exact x|xd fs=>obtain⟨_,⟨_,_,_,e,_⟩,_⟩:=x;exact⟨_,e⟩|rng lo hi=>obtain⟨_,_,_,e⟩:=x;exact⟨_,e⟩|frz ob u=>exact⟨_,x.1⟩|tbl d=>exact⟨_,(show h.get? a=some _ from x)⟩|met f y=>exact⟨_,(show h.get? a=some _ from x)⟩|ext φ=>exact x.2.1
def IV(X:Cx)(E:XK):Prop:=∀(a:R9)(c:St)(H:Hp)(s:Shared)(C:Value)(d:Sa)(h':Heap)(b:Addr),aL X a c H s->Heap.MadeExcOf s.heap h' b C d->E C none H->X.xe (.ref b) {s with heap:=h'}
section
variable{P:Sb}{w:World}{K:R7}{mg:R_}{base:Heap}{N:Sc}{a:Str}{scope:Scope}{f:Addr}{cd:Value}{A:Around}{outer:List Env}{c:Shared}{d:Hp}{E:XK}
def uP:IV (rE (sN P w) P w K mg base N a scope f cd A outer c d E) E:=by
 intro L V H s C W h' M I O q;have m:(envOfC a scope c.heap.objs.size f cd).frame=some c.heap.objs.size:=rfl;have z:jG (envOfC a scope c.heap.objs.size f cd::outer)=c.heap.objs.size::jG outer:=Bn m;have k:Un (jG outer) [] d H c.heap s.heap:=I.base;have p:∀b o,c.heap.get? b=some o->b∉jG outer->b∉jG (envOfC a scope c.heap.objs.size f cd::outer):=λb o e g hm=>by
  rw[z]at hm;rcases pw.mp hm with rfl|hm
  ·exact absurd (kl e) (ri _)
  ·exact g hm
 generalize D:hideAll s.heap (jG (envOfC a scope c.heap.objs.size f cd::outer))=B;have l:∀{b o},s.heap.get? b=some o->b∉jG (envOfC a scope c.heap.objs.size f cd::outer)->B.get? b=some o:=λe g=>by rw[<-D];exact hideAll_get _ e g
 have r:B.StaysIn s.heap:=λb o e=>by rw[<-D]at e;exact of_hideAll _ e
 have fr:s.heap.FunFrames B (envOfC a scope c.heap.objs.size f cd::outer):=by rw[<-D];exact funFrames_hide (base:=base) I.stack λenv R b g=>QN.mpr ⟨env,R,g⟩
 have v:∀b o,c.heap.get? b=some o->b∉jG outer->∃u,B.get? b=some u:=λb o e g=>by obtain⟨S,x⟩:=k.there b o e (by simp);exact⟨S,l x (p b o e g)⟩
 have j:∀b o,H b=some o->∃u,B.get? b=some u:=λb o e=>by obtain⟨u,F⟩:=(I.hok b o e).held;exact⟨u,l F λhm=>by have n:H b=none:=I.stkFree b hm;rw[e]at n;cases n⟩
 show wpAny (model P w) (A.deeper (envOfC a scope c.heap.objs.size f cd)) (leaving (envOfC a scope c.heap.objs.size f cd) (.ref M)) _ _ _;refine wpAny_leaves_madeW (outer:=outer) (h:=s.heap) I.ok.frames m r fr O λG t y tup _ up=>?_;refine⟨M,C,B,t,H,rfl,I.os,I.bare,?_,I.hok.flown j r y.1,y,j,v,q⟩;have slot:∀b o,c.heap.get? b=some o->d b=none->b∈jG outer->∃sl,G.get? b=some {o with slots:=sl}:=λb o e n g=>by
  obtain⟨sl,x⟩:=k.slot b o e n g (by simp);have T:=O.keeps _ _ x;obtain⟨_,Q,i,hd⟩:=I.ok.funs.mem g;have:Q=o:=by have i:c.heap.get? b=some Q:=i;rw[e]at i;exact(m_ i).symm
  subst this;obtain⟨J,U⟩:=up b _ T hd;exact⟨J,U⟩
 refine⟨λb o e n g _=>?_,λb o e n g _=>slot b o e n g,λb o e n _=>k.free b o e n (by simp),λb o e _=>?_,k.tups,k.frzs,k.tbls⟩
 ·exact y.1 b o (l (k.keep b o e n g (by simp)) (p b o e g))
 ·by_cases g:b∈jG outer
  ·obtain⟨sl,x⟩:=slot b o e (I.ok.frf b g) g;exact⟨_,x⟩
  ·obtain⟨u,F⟩:=v b o e g;exact⟨u,y.1 b u F⟩
end
def ym:List Value:=[.type "ValueError",.type "Exception",.type "BaseException",.type "object"]
def ng(K:R7)(C:Addr):Prop:=excIn K C ym "ValueError.__new__"=true
theorem ng.at{K:R7}{C:Addr}{h:Heap}(kin:K.In h)(x:ng K C):∃l N nm q bs hd g sub i d dd s t u v w n,h.get? C=some (excClassObj nm q C N bs l hd g sub i d dd s t u v w "ValueError.__new__")/\h.Ns N n/\n "__init__"=none/\OwnTail h ym l:=by
 unfold ng excIn at x
 split at x
 ·rename_i dd c sl look
  split at x
  ·rename_i F y k m o p z r a slots;simp only[o0,beq_iff_eq,Bool.not_eq_true']at x;obtain⟨⟨⟨⟨⟨A,B⟩,e⟩,j⟩,b⟩,f⟩:=x;subst A B;rcases c with⟨nm,bs,D,ns,E,hd,g,sub,i,d,dl⟩;dsimp only at a e b f;subst a;subst e;obtain rfl:sl=#[k,m,o,p,some (.builtin "ValueError.__new__"),r]:=by rcases sl with⟨list⟩;exact tA Array.mk slots
   exact⟨y,ns,nm,E,bs,hd,g,sub,i,d,dd,k,m,o,p,r,_,kin _ _ look,.of_isNs (isNs_of_in kin b),nsMap_none_of_in kin b f,tail_of_in kin j⟩
  ·cases x
 ·cases x
def LV(C:Addr)(E:XK)(t:TA):TS:=λ_ a H=>t a H λb c=>b.length<=sizeLine/\E (.ref C) none c
def uQ{X:Cx}{C:Addr}{E:XK}{x:Str}{S a i:Pos}{e:Expr}{d:Sd}{t:TA}(W:ng X.K C)(hg:Gl X x)(hm:X.mg x=some (.ref C))(hc:X.calm=true)(Z:IV X E)(ha:PA X (e::d) t)(j:(x==("__debug__":Str))=false:=by decide)(u:starEach (e::d) X.env=(false,eval e X.env)::starEach d X.env:=by rfl)(l:(backTo a (starEach d X.env)).any (·.1)=false:=by rfl):PS X (.Raise (some (.Call (.Name x S) (e::d) [] a)) none i) (LV C E t):=by
 intro c s v H D I h;obtain⟨w,N,nm,q,bs,hd,y,sub,A,f,dd,B,G,J,L,M,O,U,V,k,T⟩:=W.at I.mod.kin;refine wpAny_Raise_call_subT (C:=C) (N:=N) (bm:=w) (mN:=O) (bmB:=ym) (newId:="ValueError.__new__") (nm:=nm) (q:=q) (bs:=bs) (hdct:=hd) (sn:=y) (sub:=sub) (ab:=A) (col:=f) (dd:=dd) (k0:=B) (k1:=G) (k2:=J) (k3:=L) (k5:=M) PySem.F.excBase_ValueError (T.hasType PySem.F.excBase_ValueError.hasBase) (I.ok.hd hc) ?_ k (jY I hg hm ⟨rfl,?_⟩ j)
 ·rw[u];show(false||(backTo a (starEach d X.env)).any (·.1))=false;rw[l];rfl
 ·have g:=ha a c s v H _ I h;rw[u]at g⊢;refine w_ (cq g λQ R⟨vs,H1,I1,r,z,q1⟩=>?_);have p:∀b o,X.base.get? b=some o->R.heap.get? b=some o:=I1.bk;exact⟨rfl,by show Q.length<=_;rw[<-r.length];exact z,p _ _ U,V.keeps p,T.keeps p,λh' ea m=>Z c v H1 R (.ref C) Q h' ea I1 m q1⟩
end L2
namespace L2
open PySem PySem.W PyProof.Rows
def Un.flown{fs:Sg}{H i:Hp}{h1 h' h5 B:Heap}(un:Un fs [] H i h1 h')(c:∀b o,h1.get? b=some o->b∉fs->∃u,B.get? b=some u)(k:B.StaysIn h')(j:B.StaysIn h5)(up:h'.UpToSlots h5)(fr:∀b∈fs,H b=none/\∀o,h1.get? b=some o->∀l,o.data≠.fields l):Un fs [] H i h1 h5:=by
 have slot:∀b o,h1.get? b=some o->H b=none->b∈fs->∃sl,h5.get? b=some {o with slots:=sl}:=λb o e n a=>by obtain⟨sl,g⟩:=un.slot b o e n a (by simp);obtain⟨h,d⟩:=up b _ g ((fr b a).2 o e);exact⟨h,d⟩
 refine⟨λb o e n a m=>?_,λb o e n a _=>slot b o e n a,un.free,λb o e _=>?_,un.tups,un.frzs,un.tbls⟩
 ·have p:=un.keep b o e n a m;obtain⟨u,f⟩:=c b o e a;have d:=k b u f;rw[p]at d;cases d;exact j b _ f
 ·by_cases a:b∈fs
  ·obtain⟨sl,g⟩:=slot b o e (fr b a).1 a;exact⟨_,g⟩
  ·obtain⟨u,f⟩:=c b o e a;exact⟨u,j b u f⟩
abbrev Cx.inExc(X:Cx)(a:Addr):Cx:={X with A:=X.A.mark (some (.ref a)),calm:=false,xe:=λ_ _=>False}
section
variable{X:Cx}{a:R9}{d:St}{H:Hp}{s:Shared}{c:Addr}
theorem Cx.Ok.inExc(ok:X.Ok)(c:Addr):(X.inExc c).Ok:=⟨ok.mod,ok.kind,ok.glob,ok.blt,ok.above,ok.inj,ok.has,ok.cab,λz=>absurd z (by simp),ok.frames,ok.stk,ok.exf,ok.bs,ok.bsz,ok.noex,ok.exfs,ok.funs,ok.frf⟩
theorem aL.inExc(I:aL X a d H s)(c:Addr):aL (X.inExc c) a d H s:=⟨I.ok.inExc c,I.os,I.bare,I.base,I.loc,I.cell,I.free,I.freeC,I.pin,I.hok,I.len⟩
def aL.outExc(ok:X.Ok)(I:aL (X.inExc c) a d H s):aL X a d H s:=⟨ok,I.os,I.bare,I.base,I.loc,I.cell,I.free,I.freeC,I.pin,I.hok,I.len⟩
theorem SP.outExc(ok:X.Ok)(h:SP (X.inExc c) a D f g):SP X a D f g:=by cases f with|next=>obtain⟨b,e,I,q⟩:=h;exact⟨b,e,I.outExc ok,q⟩|brk=>obtain⟨b,e,I,q⟩:=h;exact⟨b,e,I.outExc ok,q⟩|cont=>obtain⟨b,e,I,q⟩:=h;exact⟨b,e,I.outExc ok,q⟩|ret u=>obtain⟨v,b,e,I,r,q⟩:=h;exact⟨v,b,e,I.outExc ok,r,q⟩
end
def jr(c:BS)(X:Cx)(E:XK)(a:R9)(d:St):Prop:=∀(H:Hp)(s:Shared)(e:Value)(b:Shared),aL X a d H s->c X.stack H s E e b->X.xe e b
def Nq(X:Cx)(a:R9)(c:St)(e:Expr)(t:TE):Prop:=∀(s:Shared)(H:Hp)(Q:VK),aL X a c H s->t c H Q->wpAny (model X.prog X.w) X.A (eval e X.env) (EP X a c Q) X.xe s
def No(X:Cx)(a:R9)(c:St)(st:Stmt)(t:TS):Prop:=∀(s:Shared)(H:Hp)(D:ql),aL X a c H s->t D c H->wpAny (model X.prog X.w) X.A (exec st X.env) (SP X a D) X.xe s
def Pq(c:XK->TS)(C:Addr)(d:TS):TS:=λD a H=>c (λb _ e=>b=.ref C/\d D a e) D a H
def Mu{X:Cx}{st Z:Stmt}{c:List Stmt}{tb:XK->TS}{th:TS}{C:Addr}{x:Str}{np g aa:Pos}(r:X.stack=X.env::X.outer)(hf:X.env.frame=some X.env.locals)(hC:ng X.K C)(hg:Gl X x)(hm:X.mg x=some (.ref C))(W:∀(E:XK)(a:R9)(i:St)(Xe:R8),jr (sN X.prog X.w) (X.wish Xe) E a i->No (X.wish Xe) a i st (tb E))(hh:∀l,xi (X.inExc l) (Z::c) th)(ad:(x==("__debug__":Str))=false:=by decide):PS X (.Try [st] [.ExceptHandler (some (.Name x np)) none (Z::c) g] [] [] aa) (Pq tb C th):=by
 intro a s i H D I h;refine wpAny_Try_except ?_;have hp:jr (sN X.prog X.w) (X.wish λe s₁=>wpAny (model X.prog X.w) X.A (noteFrame e X.env) (λ_ y=>wpAny (model X.prog X.w) X.A (setFlight e none) (λ_ G=>wpAny (model X.prog X.w) X.A (handleBy e X.env [.ExceptHandler (some (.Name x np)) none (Z::c) g]) (SP X a D) X.xe G) X.xe y) X.xe s₁) (λC' _ J=>C'=.ref C/\th D i J) a i:=by
  rintro H1 U e m I1⟨l,C',B,t,J,rfl,os,bare,un,hok,L,M,d,rfl,V⟩;have I1:=I1.unwish;have un:Un (jG X.stack) [] H1 J U.heap m.heap:=un;have L:Heap.FlyingW B X.stack l (.ref C) (.ref t) m.heap:=L;have d:∀b o,U.heap.get? b=some o->b∉jG X.stack->∃u,B.get? b=some u:=d;have Y:∀b∈jG X.stack,H1 b=none/\∀o,U.heap.get? b=some o->∀vs,o.data≠.fields vs:=λb W=>by refine⟨I1.stkFree b W,λo e=>?_⟩;obtain⟨_,o',O,hd⟩:=I1.stack.mem W;rw[e]at O;cases O;exact hd
  have j:∀h5,B.StaysIn h5->m.heap.UpToSlots h5->aL X a i J {m with heap:=h5}:=λh5 k up=>I1.call' (s':={m with heap:=h5}) (ch:=[]) os (un.flown d L.1 k up Y) (hok.flown M L.1 k) bare λb z=>absurd z (by simp)
  show wpAny (model X.prog X.w) X.A (noteFrame (.ref l) X.env) _ X.xe m;have P:=L;rw[r]at P;refine wpAny_looks_onW (outer:=X.outer) (by rw[I.ok.frames,r]) hf P λh4 n Q=>?_;refine wpAny_landsW n λh5 p R=>?_;have I5:=j h5 p.1 (Q.trans R);refine wpAny_handleBy_cons (codeAny_handlers_test (jY (I5.inExc l) hg hm ?_ ad)) (by intro z;cases z);obtain⟨bm,N,nm,q,bs,hd,sn,sub,ab,a0,dd,k0,k1,k2,k3,k5,mN,al,hN,a2,T⟩:=hC.at I.mod.kin;obtain⟨ob,an,S⟩:=p.there;refine wpAny_excMatches_sub_self (I5.bk _ _ al) an S (T.hasType PySem.F.excBase_ValueError.hasBase) (codeAny_handlers_suite ?_);refine lands_againW p λh6 ap as=>?_;have I6:=j h6 ap.1 ((Q.trans R).trans as);exact wpAny_mono (hh l a _ i J D (I6.inExc l) V) (λf s2 z=>z.outExc I.ok) λ_ _ z=>z.elim
 have b:=W _ a i _ hp s H D (I.wish _) h;refine Q2 (wpAny_mono b (λf U z=>?_) λ_ _ z=>z);have z:=z.unwish;cases f with|next=>exact H_ (H_ z)|ret v=>exact z|brk=>exact z|cont=>exact z
section
variable{X:Cx}{L:BS}{k:Nat}{f C:Addr}{fd:FuncData}{J:Sc}{sp:Sp}{j:List V}{ds:Sa}{E:XK}{x m:Str}{p i G:Pos}{e o:Expr}{B:Sd}{M:TE}{t:TA}{d:R9}{n:St}
def GH(F:aO X.prog X.w X.K X.mg X.base L k f fd J sp)(c:eK k X.A)(g:fW X.K fd J ds)(hd:a9 j ds)(l:jr L X E d n)(I:aL X d n H s)(r:a9 vs us)(h:sp (vs++j) H Q E):wpAny (model X.prog X.w) X.A (call (.ref f) us) (EP X d n Q) X.xe s:=by
 have a:a9 (vs++j) (us++ds):=r.append hd;have len:(us++ds).length=J.length:=a.length▸F.len _ _ _ _ h;refine Q_ (t1 (F.run X.A X.stack s H ⟨us,[]⟩ (us++ds) (vs++j) Q E c I.env0 (g s us I.kIn len) a h) λb q z=>?_);rcases b with ex|v
 ·exact l H s ex q I z
 ·cases v with|ret u=>exact I.after z|next=>cases z|brk=>cases z|cont=>cases z
def Kq(P:PE X o M)(c:zR X.K C)(hm:Ja X.K C m f)(F:aO X.prog X.w X.K X.mg X.base L k f fd J sp)(R:eK k X.A)(S:fW X.K fd J ds)(hd:a9 j ds)(T:jr L X E d n)(Z:PA X (e::B) t)(y:starEach (e::B) X.env=(false,eval e X.env)::starEach B X.env:=by rfl)(z:(backTo i (starEach B X.env)).any (·.1)=false:=by rfl)(ht:eval (.Call (.Attribute o m G) (e::B) [] i) X.env=(do
   let obj<-eval o X.env
   standAt G.atName let(g,first)<-holding [obj] (getMethod obj m pl)callWith i g first (backTo i (starEach (e::B) X.env)) (backToKw i (keywordEach [] X.env))):=by rfl):Nq X d n (.Call (.Attribute o m G) (e::B) [] i) (FZ C m sp j E M t):=by intro s H Q I h;refine PySem.W.methodCall_KW (pl:=pl) (cq (P d s n H _ I h) λu U⟨v,Y,I1,rv,a,dx,fs,ev,ea,l,q⟩=>?_) ht;subst ev;cases(show u=Value.ref a from rv);refine oJ I1 ea c hm l (PySem.W.callWith_K (first:=[.ref a]) (h₀:=X.base) I.ok.mod.kin hm.kp (cq (Z i d U n Y _ I1 q) λD s2⟨N,H2,O,r,q2⟩=>⟨O.kIn,?_⟩) y z);exact GH (us:=.ref a::D) (vs:=.ref a::N) F R S hd T O (.cons rfl r) q2
def K3(F:aO X.prog X.w X.K X.mg X.base L k f fd J sp)(g:eK k X.A)(hg:Gl X x)(hm:X.mg x=some (.ref f))(l:PySem.W.keepIn X.K (.ref f)=true)(u:fW X.K fd J ds)(hd:a9 j ds)(v:jr L X E d n)(y:PA X (e::B) t)(a:(x==("__debug__":Str))=false:=by decide)(z:starEach (e::B) X.env=(false,eval e X.env)::starEach B X.env:=by rfl)(c:(backTo i (starEach B X.env)).any (·.1)=false:=by rfl):Nq X d n (.Call (.Name x p) (e::B) [] i) (F1 sp j E t):=by intro s H Q I h;refine to (jY I hg hm (PySem.W.callWith_K (h₀:=X.base) I.ok.mod.kin l (cq (y i d s n H _ I h) λD N⟨O,P,I1,r,q⟩=>⟨I1.kIn,?_⟩) z c) a);exact GH F g u hd v I1 r q
def DN(a:Nq X d n e te)(c:swapsWith e none i.line X.env=pure false:=by rfl):No X d n (.Expr e i) (Lm te):=by intro s H D I h;exact wpAny_Expr_any (cq (a s H _ I h) λv l⟨y,b,I1,q,g⟩=>⟨n,b,I1,g⟩) I.quiet c
end
theorem PS.nox{X:Cx}{st:Stmt}{t:TS}(h:PS X.nox st t):PS X st t:=λa s b H D I c=>wpAny_mono (h a s b H D (I.wish _) c) (λ_ _ q=>q.unwish) λ_ _ z=>False.elim z
section
variable{P:Sb}{w:World}{K:R7}{mg:R_}{base:Heap}
def zQ.okE{x a:Str}{st:Stmt}{f:Addr}{fd:FuncData}{N g:Sc}{k:Nat}{sp:Sp}(F:zQ K x a st f fd)(S:au N g (ai st))(len:∀d H Q E,sp d H Q E->d.length=g.length)(e:∀(c:Value)(A:Around)(outer:List Env)(s:Shared)(H:Hp)(d:List V)(Q:VK)(E:XK),eK k (A.deeper (envOfC a (ai st) s.heap.objs.size f c))->sp d H Q E->∃t,xi (rE (sN P w) P w K mg base N a (ai st) f c A outer s H E) (gp st) t/\t {nx:=λ_ i=>Q .non i,rt:=Q} (i8 N d) H):aO P w K mg base (sN P w) (k+1) f fd g sp:=by obtain⟨oc,o,kV,j,pm,p,c,ct,l,rfl,m,b⟩:=F.ex;exact Lv m b S len λA outer s H d Q E n h=>e c A outer s H d Q E n h
end
def K1(s:Stmt):List Stmt:=match s with|.ClassDef _ _ _ b _ _ _ _ _ _ _=>b|_=>[]
end L2
namespace L2
open PySem PySem.W PyProof.Rows
abbrev bS:=cg⊕List cg
section
variable(P:Sb)(w:World)
def iq:bS->Int|.inl k=>(aK P w).hash k|.inr []=>hashW w.params .none|.inr (k::a)=>(tupleKind (aK P w)).hash (k::a)
def kn:bS->Nat|.inl _=>1|.inr a=>a.length+1
def lJ(h:Heap)(k:bS)(v:Value):Prop:=match k with|.inl k=>(aK P w).is k v=true|.inr []=>v=.none|.inr (k::b)=>∃a,v=.ref a/\(tupleKind (aK P w)).is h (k::b) a
abbrev kz:=bS×Value×Value
def tI(x:kz):DictEntry:=⟨iq P w x.1,x.2.1,x.2.2⟩
end
section
variable{P:Sb}{w:World}{A:Around}{E:R8}{s:Shared}
def lJ.flat(x:lJ P w h (.inl k) v):(∃i t,v=.int i t/\k=.inl i)\/∃z t,v=.str z t/\k=.inr z:=by have x:nH k v=true:=x;cases k with
 |inl i=>have x:Value.isInt i v=true:=x;cases v with|int j t=>simp[Value.isInt]at x;exact .inl ⟨_,_,rfl,by rw[x]⟩|_=>cases x
 |inr z=>have x:Value.isStrOf z v=true:=x;cases v with|str j t=>simp[Value.isStrOf]at x;exact .inr ⟨_,_,rfl,by rw[x]⟩|_=>cases x
def Hs(d:A.units<cLine)(c:lJ P w s.heap k v)(q:Q (iq P w k) {s with toks:=s.toks+kn k}):wpAny (model P w) A (pyHash v) Q E s:=by match k,c,q with|.inl k,c,q=>exact(aK P w).pyHash c q|.inr [],c,q=>cases c;exact pyHash_slot (T:="NoneType") rfl F.slot_NoneType_hash F.entry_NoneType_hash (F.args_NoneType_hash_1 _) (beq_builtin_none _) (.inr (by omega)) (a_ (e_ (a_ (wpAny_mkInt (e_ ⟨_,_,rfl,q⟩)))))|.inr (k::e),c,q=>obtain⟨a,rfl,b⟩:=c;exact(tupleKind (aK P w)).pyHash d b q
def OV:SeqAt.EqAt A s .none .none true:=λprog w E Q a=>by unfold eqBool;refine p_ ?_;exact ta (λ_=>a_ (wh (e_ a))) (λz=>absurd (by decide) z)
def Ks(f:A.units<cLine)(d:lJ P w s.heap x u)(c:lJ P w s.heap y v)(q:Q (decide (x=y)) s):wpAny (model P w) A (eqBool u v) Q E s:=by match x,d,q with
 |.inl x,d,q=>match y,c,q with
  |.inl y,c,q=>exact(aK P w).eqBool d c (by simpa using q)|.inr [],c,q=>
   cases c;rw[no (by intro z;cases z)]at q;rcases lJ.flat d with⟨i,t,rfl,_⟩|⟨z,t,rfl,_⟩
   ·exact SeqAt.EqAt.int_none i t P w E Q q
   ·exact SeqAt.EqAt.str_none z t P w E Q q|.inr (k::j),c,q=>
   obtain⟨a,rfl,o,g,n,e,hc,hd,hi⟩:=c;rw[no (by intro z;cases z)]at q;rcases lJ.flat d with⟨i,t,rfl,_⟩|⟨z,t,rfl,_⟩
   ·exact SeqAt.EqAt.int_tuple i t ⟨_,e,hc,_,hd⟩ f P w E Q q
   ·exact SeqAt.EqAt.str_tuple z t ⟨_,e,hc,_,hd⟩ f P w E Q q
 |.inr [],d,q=>
  cases d
  match y,c,q with
  |.inl y,c,q=>
   rw[no (by intro z;cases z)]at q;rcases lJ.flat c with⟨i,t,rfl,_⟩|⟨z,t,rfl,_⟩
   ·exact SeqAt.EqAt.none_int i t P w E Q q
   ·exact SeqAt.EqAt.none_str z t P w E Q q|.inr [],c,q=>cases c;rw[nn rfl]at q;exact OV P w E Q q|.inr (k::j),c,q=>obtain⟨a,rfl,o,g,n,e,hc,hd,hi⟩:=c;rw[no (by intro z;cases z)]at q;exact SeqAt.EqAt.none_tuple ⟨_,e,hc,_,hd⟩ f P w E Q q
 |.inr (k::j),d,q=>
  obtain⟨a,rfl,h⟩:=d
  match y,c,q with
 |.inl y,c,q=>
   obtain⟨o,g,n,e,hc,hd,hi⟩:=h;rw[no (by intro z;cases z)]at q;rcases lJ.flat c with⟨i,t,rfl,_⟩|⟨z,t,rfl,_⟩
   ·exact SeqAt.EqAt.tuple_int i t ⟨_,e,hc,_,hd⟩ f P w E Q q
   ·exact SeqAt.EqAt.tuple_str z t ⟨_,e,hc,_,hd⟩ f P w E Q q|.inr [],c,q=>cases c;obtain⟨o,g,n,e,hc,hd,hi⟩:=h;rw[no (by intro z;cases z)]at q;exact SeqAt.EqAt.tuple_none ⟨_,e,hc,_,hd⟩ f P w E Q q|.inr (l::ls),c,q=>obtain⟨b,rfl,m⟩:=c;exact(tupleKind (aK P w)).eqBool f h m (by simpa using q)
def DG(c:lJ P w s.heap k v)(q:Q true s):wpAny (model P w) A (eqIsQuiet 8 v) Q E s:=by match k,c with
 |.inl k,c=>
  rcases lJ.flat c with⟨i,t,rfl,_⟩|⟨z,t,rfl,_⟩
  ·exact e_ q
  ·exact e_ q|.inr [],c=>cases c;exact e_ q|.inr (k::d),c=>obtain⟨a,rfl,b⟩:=c;exact(tupleKind (aK P w)).quiet b q
theorem lJ.inj(d:lJ P w h x v)(c:lJ P w h y v):x=y:=by match x,d with
 |.inl x,d=>match y,c with|.inl y,c=>rw[(aK P w).inj v x y d c]|.inr [],c=>cases c;rcases lJ.flat d with⟨i,t,e,_⟩|⟨z,t,e,_⟩<;>cases e|.inr (k::f),c=>obtain⟨a,rfl,_⟩:=c;rcases lJ.flat d with⟨i,t,e,_⟩|⟨z,t,e,_⟩<;>cases e
 |.inr [],d=>
  cases d
  match y,c with|.inl y,c=>rcases lJ.flat c with⟨i,t,e,_⟩|⟨z,t,e,_⟩<;>cases e|.inr [],_=>rfl|.inr (k::f),c=>obtain⟨a,e,_⟩:=c;cases e
 |.inr (k::f),d=>
  obtain⟨a,rfl,g⟩:=d
  match y,c with|.inl y,c=>rcases lJ.flat c with⟨i,t,e,_⟩|⟨z,t,e,_⟩<;>cases e|.inr [],c=>cases c|.inr (l::ls),c=>obtain⟨b,e,j⟩:=c;cases e;rw[(tupleKind (aK P w)).inj g j]
def Kr{k:bS}{v:Value}{st:Sa}{Q:Bool->Shared->Prop}(d:lJ P w s.heap k v)(e:∀u∈st,∃a,lJ P w s.heap a u)(q:Q false s):wpAny (model P w) A (tableMayTell v st) Q E s:=by
 unfold tableMayTell
 split
 ·exact e_ q
 ·refine a_ (DG d ?_);simp only[Bool.not_true,Qk,Q4];refine a_ (RQ _ (λleft r b=>b=s/\r=(none,())/\∀u∈left,∃a,lJ P w s.heap a u) _ ?_ ?_ _ _ ⟨rfl,rfl,e⟩)
  ·rintro u left r b⟨rfl,rfl,c⟩;obtain⟨a,f⟩:=c u mm;refine a_ (DG f ?_);simp only[Bool.not_true,Qk,Q4];exact e_ ⟨rfl,rfl,λz g=>c z (k4 _ g)⟩
  ·rintro r b⟨rfl,rfl,_⟩;exact e_ q
def OD{a:Array DictEntry}{c:List kz}(d:a.toList=c.map (tI P w))(j:Nat):a[j]?=(c[j]?).map (tI P w):=by rw[<-v_,d,j_]
def Hq{a:Array DictEntry}{c:List kz}(d:a.toList=c.map (tI P w)):a.size=c.length:=by rw[<-n_,d,c_]
def Hr{a:List kz}(hn:(a.map (·.1)).Nodup){i j:Nat}{k:bS}{p q:Value×Value}(hi:a[i]?=some (k,p))(c:a[j]?=some (k,q)):i=j:=by
 have b:(a.map (·.1))[i]?=some k:=by rw[j_,hi];rfl
 have d:(a.map (·.1))[j]?=some k:=by rw[j_,c];rfl
 exact(Qp (d_.mp b).1 hn).mp (b.trans d.symm)
def PM[Decidable c](h1:c->wpAny (model P w) A t Q E s)(h2:¬c->wpAny (model P w) A u Q E s):wpAny (model P w) A (if c then t else u) Q E s:=by
 by_cases h:c
 ·rw[kw h];exact h1 h
 ·rw[ku h];exact h2 h
def Nr(a:List kz)(k:bS)(s:Shared)(b:Option (Option Nat)×Option Nat)(c:Shared):Prop:=c=s/\((∃j p,b=(some (some j),none)/\a[j]?=some (k,p))\/(b.1=none/\((b.2=none/\∀(j:Nat)(p:Value×Value),a[j]?≠some (k,p))\/∃j p,b.2=some j/\a[j]?=some (k,p))))
def MN{h:List kz}{k:bS}{a:Sf}(hn:(h.map (·.1)).Nodup)(u:∀j p,h[j]?=some (k,p)->j∈a)(v:∀j∈a,∃y:kz,h[j]?=some y/\iq P w y.1=iq P w k)(n:a.Nodup)(f:Nat->Option (Option Nat)×Option Nat->Sem (ForInStep (Option (Option Nat)×Option Nat)))(h1:∀(x:Nat)(p:Value×Value)(R:ForInStep (Option (Option Nat)×Option Nat)->Shared->Prop),x∈a->h[x]?=some (k,p)->R (.done (some (some x),none)) s->R (.yield (none,some x)) s->wpAny (model P w) A (f x (none,none)) R E s)(h2:∀(x:Nat)(o:Option Nat)(y:kz)(R:ForInStep (Option (Option Nat)×Option Nat)->Shared->Prop),x∈a->h[x]?=some y->iq P w y.1=iq P w k->y.1≠k->R (.yield (none,o)) s->wpAny (model P w) A (f x (none,o)) R E s):wpAny (model P w) A (forIn a ((none,none):Option (Option Nat)×Option Nat) f) (Nr h k s) E s:=by
 refine RQ f (λleft b B=>B=s/\b.1=none/\∃pre,a=pre++left/\((b.2=none/\∀j∈pre,∀p,h[j]?≠some (k,p))\/∃j p,b.2=some j/\j∈pre/\h[j]?=some (k,p))) _ ?_ ?_ _ _ ⟨rfl,rfl,[],rfl,.inl ⟨rfl,by simp⟩⟩
 ·rintro x left⟨b1,b2⟩B⟨rfl,rfl,pre,m,t⟩;have i:x∈a:=by rw[m];simp
  have C:x∉pre:=λz=>by rw[m,rr]at n;exact n.2.2 x z x mm rfl
  obtain⟨y,l,hh⟩:=v x i;have r:a=(pre++[x])++left:=by rw[m];simp
  by_cases e:y.1=k
  ·obtain⟨D,p⟩:=y;have e:D=k:=e;subst e;rcases t with⟨rfl,g⟩|⟨j,q,rfl,d,c⟩
   ·refine h1 x p _ i l ⟨rfl,.inl ⟨x,p,rfl,l⟩⟩ ⟨rfl,rfl,pre++[x],r,.inr ⟨x,p,rfl,by simp,l⟩⟩
   ·exact absurd (Hr hn c l▸d) C
  ·refine h2 x b2 y _ i l hh e ⟨rfl,rfl,pre++[x],r,?_⟩;rcases t with⟨rfl,g⟩|⟨j,q,rfl,d,c⟩
   ·refine .inl ⟨rfl,λj d p z=>?_⟩;rcases List.mem_append.mp d with d|d
    ·exact g j d p z
    ·rw[List.mem_singleton.mp d,l]at z;cases z;exact e rfl
   ·exact .inr ⟨j,q,rfl,D2 _ d,c⟩
 ·rintro⟨b1,b2⟩B⟨rfl,rfl,pre,m,t⟩;refine⟨rfl,.inr ⟨rfl,?_⟩⟩;rcases t with⟨rfl,g⟩|⟨j,q,rfl,d,c⟩
  ·refine .inl ⟨rfl,λj p z=>g j ?_ p z⟩;have:=u j p z;rw[m,B_]at this;exact this
  ·exact .inr ⟨j,q,rfl,c⟩
def Ht{d:Addr}{o:Obj}{n:Array DictEntry}{ep:Nat}{C:List kz}{k:bS}{g:Value}{Q:Option Nat->Shared->Prop}(hu:A.units<cLine)(f:lJ P w s.heap k g)(L:s.heap.get? d=some o)(hd:o.data=.dict n ep)(he:n.toList=C.map (tI P w))(u:∀x∈C,lJ P w s.heap x.1 x.2.1)(hn:(C.map (·.1)).Nodup)(D:(∀(j:Nat)(p:Value×Value),C[j]?≠some (k,p))->Q none s)(q:∀(j:Nat)(p:Value×Value),C[j]?=some (k,p)->Q (some j) s):wpAny (model P w) A (dictFind d g (iq P w k)) Q E s:=by
 have sz:=Hq he;have B:=OD he;generalize K:placesWithHash n.size (λi=>n[i]?.map (·.hash)) (iq P w k)=c;have al:∀j p,C[j]?=some (k,p)->j∈c:=λj p l=>by
  rw[<-K];unfold placesWithHash;refine zz.mpr ⟨q_.mpr ?_,?_⟩
  ·rw[sz];exact(d_.mp l).1
  ·show(n[j]?.map (·.hash)==some (iq P w k))=true;rw[B j,l];simp[tI]
 have S:∀j∈c,∃y:kz,C[j]?=some y/\iq P w y.1=iq P w k:=λj l=>by rw[<-K]at l;unfold placesWithHash at l;obtain⟨h1,h2⟩:=zz.mp l;have h1:=q_.mp h1;rw[sz]at h1;refine⟨C[j],h_ h1,?_⟩;have h2:(n[j]?.map (·.hash)==some (iq P w k))=true:=h2;rw[B j,h_ h1]at h2;simpa[tI]using h2
 have ap:c.Nodup:=by rw[<-K];exact List.filter_sublist.nodup List.nodup_range
 have plain:wpAny (model P w) A (dictWalkPlain d g (iq P w k) n c) Q E s:=by
  unfold dictWalkPlain;refine a_ (RQ _ (λleft b s'=>s'=s/\b=(none,())/\∃pre,c=pre++left/\∀j∈pre,∀p,C[j]?≠some (k,p)) _ ?_ ?_ _ _ ⟨rfl,rfl,[],rfl,by simp⟩)
  ·rintro x left b s'⟨rfl,rfl,pre,hp,T⟩;obtain⟨⟨M,kv,v'⟩,m,hh⟩:=S x (by rw[hp];simp);have G:n[x]?=some ⟨iq P w M,kv,v'⟩:=by rw[B x,m];rfl
   rw[G];dsimp only;rw[kw (by rw[hh];simp)];refine a_ (A_ L hd (a_ (Ks (x:=M) (y:=k) hu (u _ (i_ m)) f (a_ (A_ L hd ?_)))));show wpAny (model P w) A (if(ep !=ep)=true then _ else _) _ E s';rw[ku (by simp)]
   by_cases N:M=k
   ·rw[nn N];subst N;exact a_ (wh (e_ (e_ (q x _ m))))
   ·rw[no N];refine a_ (wh (e_ ⟨rfl,rfl,pre++[x],by rw[hp];simp,λj l p z=>?_⟩));rcases List.mem_append.mp l with l|l
    ·exact T j l p z
    ·rw[List.mem_singleton.mp l,m]at z;cases z;exact N rfl
  ·rintro b s'⟨rfl,rfl,pre,hp,T⟩;refine e_ (D λj p z=>T j ?_ p z);have:=al j p z;rw[hp,B_]at this;exact this
 have an:∀v∈c.filterMap (λi=>n[i]?.map (·.key)),∃M,lJ P w s.heap M v:=λv U=>by obtain⟨i,hi,U⟩:=QN.mp U;obtain⟨y,I,_⟩:=S i hi;rw[B i,I]at U;cases U;exact⟨_,u y (i_ I)⟩
 unfold dictFind
 with_reducible refine p_ ?_
 refine a_ (wpAny_dictEntries L hd ?_);dsimp only;rw[K];generalize a7:c.filterMap (λi=>n[i]?.map (·.key))=stored at an⊢;have H:∀z t,g=.str z t->(n.all λe=>isExactStrKey e.key)=true->wpAny (model P w) A (foundByValue d g n z) Q E s:=by
  rintro z t rfl-;have ek:k=.inl (.inr z):=by
   cases k with|inl k=>
    rcases f.flat with⟨i,t',e,_⟩|⟨z',t',e,e2⟩
    ·cases e
    ·cases e;rw[e2]|inr ks=>cases ks with|nil=>cases f|cons k ks=>obtain⟨a,e,_⟩:=f;cases e
  have as:∀(j:Nat)(y:kz),C[j]?=some y->y.2.1.isStr z=true->y.1=k:=λj y I J=>by have h3:=u y (i_ I);refine lJ.inj h3 ?_;rw[ek];cases U:y.2.1 with
 |str z' t'=>
    rw[U]at J;have:z'=z:=by simpa[Value.isStr]using J
    rw[this];exact sw P w z t'|_=>rw[U]at J;cases J
  have a0:∀(j:Nat)(p:Value×Value),C[j]?=some (k,p)->p.1.isStr z=true:=λj p l=>by
   have h3:lJ P w s.heap k p.1:=u _ (i_ l);rw[ek]at h3;rcases h3.flat with⟨i,t',_,e⟩|⟨z',t',e,e2⟩
   ·cases e
   ·cases e2;rw[e];simp[Value.isStr]
  unfold foundByValue;cases hf:n.findIdx? (λe=>e.key.isStr z)with
 |none=>
   refine e_ (D λj p l=>?_);have F:=Array.findIdx?_eq_none_iff.mp hf;have h4:n[j]?=some (tI P w (k,p)):=by rw[B j,l];rfl
   have h5:=F _ (Array.mem_of_getElem? h4);have h6:p.1.isStr z=false:=by simpa[tI]using h5
   rw[a0 j p l]at h6;cases h6|some i=>
   obtain⟨V,hi,_⟩:=Array.findIdx?_eq_some_iff_getElem.mp hf;have m:C[i]?=some (C[i]'(by rw[<-sz];exact V)):=h_ _;generalize C[i]'(by rw[<-sz];exact V)=y at m;have G:n[i]?=some (tI P w y):=by rw[B i,m];rfl
   have a2:y.2.1.isStr z=true:=by rw[vl V]at G;rw[m_ G]at hi;exact hi
   have I:=as i y m a2;obtain⟨M,p⟩:=y;have I:M=k:=I;subst I;dsimp only;rw[G];dsimp only;refine a_ (A_ L hd (a_ (Ks (x:=M) (y:=M) hu (u _ (i_ m)) f (a_ (A_ L hd ?_)))));rw[ku (by simp),kw (nn rfl)];exact a_ (wh (e_ (q i p m)))
 have O:∀a,g=.ref a->¬(n.any λe=>e.key==g&&e.hash !=iq P w k)=true:=by intro a ea;rw[<-Array.any_toList,he,Q9];rintro⟨e,a3,hc⟩;obtain⟨y,I,rfl⟩:=nk.mp a3;simp only[tI,o0,beq_iff_eq,bne_iff_ne,ne_eq]at hc;have h3:=u y I;rw[hc.1]at h3;exact hc.2 (by rw[h3.inj f])
 by_cases F:((g::stored).all carriedByValue)=true
 ·rw[kw F]
  split
  ·rename_i z t
   split
   ·rename_i J;exact H z t rfl J
   ·exact plain
  ·exact plain
 ·rw[ku F];have W:(∃i t,g=.int i t)\/(∃z t,g=.str z t)\/(∃a,g=.ref a)\/g=.none:=by
   cases k with|inl k=>
    rcases f.flat with⟨i,t,e,_⟩|⟨z,t,e,_⟩
    ·exact .inl ⟨i,t,e⟩
    ·exact .inr (.inl ⟨z,t,e⟩)|inr ks=>cases ks with|nil=>exact .inr (.inr (.inr f))|cons k ks=>obtain⟨a,e,_⟩:=f;exact .inr (.inr (.inl ⟨a,e⟩))
  have X:∀(x:Nat)(p:Value×Value),C[x]?=some (k,p)->∃e,n[x]?=some e/\e.hash=iq P w k/\lJ P w s.heap k e.key:=λx p m=>⟨_,by rw[B x,m];rfl,rfl,u _ (i_ m)⟩;have Y:∀(x:Nat)(y:kz),C[x]?=some y->∃e,n[x]?=some e/\e.hash=iq P w y.1/\lJ P w s.heap y.1 e.key:=λx y m=>⟨_,by rw[B x,m];rfl,rfl,u _ (i_ m)⟩;rcases W with⟨i,t,e⟩|⟨z,t,e⟩|⟨a,e⟩|e
  case' inl=>subst e;dsimp only
  case' inr.inl=>
   subst e;dsimp only
   by_cases J:(n.all λe=>isExactStrKey e.key)=true
   case pos=>rw[kw J];exact H z t rfl J
   case' neg=>rw[ku J]
  case' inr.inr.inl=>subst e;dsimp only;rw[ku (O a rfl)]
  case' inr.inr.inr=>subst e;dsimp only
  all_goals refine PM (λ_=>a_ (e_ ?_)) (λ_=>a_ (Kr f an ?_))
  all_goals rw[ku (by simp)];refine a_ (wpAny_mono (MN (P:=P) (w:=w) hn al S ap _ ?_ ?_) (λb s' z=>?_) λ_ _ z=>z)
  all_goals first
   |(obtain⟨b1,b2⟩:=b
     obtain⟨rfl,h⟩:=z;rcases h with⟨j,p,e,l⟩|⟨e,h⟩
     ·cases e;exact e_ (q j p l)
     ·have e:b1=none:=e;subst e;rcases h with⟨e,h⟩|⟨j,p,e,l⟩<;>(have e:b2=_:=e;subst e)
      ·exact e_ (D h)
      ·exact e_ (q j p l))
   |(intro x p R a5 m r1 r2
     obtain⟨e,Z,aa,ad⟩:=X x p m;rw[Z];dsimp only;rw[kw (by rw[aa];simp)];refine a_ (A_ L hd (a_ (Ks (x:=k) (y:=k) hu ad f (a_ (A_ L hd ?_)))));rw[ku (by simp),kw (nn rfl),ku (by simp)];refine a_ (wh ?_)
     split
     ·exact e_ r1
     ·exact e_ r2)
   |(intro x a8 y R a5 m hh a6 r
     obtain⟨e,Z,aa,ad⟩:=Y x y m;rw[Z];dsimp only;rw[kw (by rw[aa,hh];simp)];refine a_ (A_ L hd (a_ (Ks (x:=y.1) (y:=k) hu ad f (a_ (A_ L hd ?_)))));rw[ku (by simp),ku (by simp[a6])];refine a_ (wh ?_);rw[ku (by simp)];exact e_ r)
end
end L2
namespace L2
open PySem PySem.W PyProof.Rows
section
variable{P:Sb}{w:World}{A:Around}{E:R8}{s:Shared}
def DH{c:Type}{a:List (bS×c)}(hn:(a.map (·.1)).Nodup){j:Nat}{k:bS}{p:c}(d:a[j]?=some (k,p)):a.find? (λx=>decide (x.1=k))=some (k,p):=by
 rw[List.find?_eq_some_iff_append];obtain⟨g,e⟩:=d_.mp d;refine⟨nn rfl,a.take j,a.drop (j+1),?_,λy h=>?_⟩
 ·rw[<-e,List.getElem_cons_drop,vu]
 ·obtain⟨i,hi⟩:=m3.mp h;have b:i<j:=by have:=(d_.mp hi).1;rw[oe]at this;omega
  rw[QY b]at hi;have:y.1≠k:=λz=>by
   have f:(a.map (·.1))[i]?=some k:=by rw[j_,hi,<-z];rfl
   have l:(a.map (·.1))[j]?=some k:=by rw[j_,d];rfl
   have:=(Qp (d_.mp f).1 hn).mp (f.trans l.symm);lia
  simp[this]
def xD{c:Type}{d:List (bS×c)}{k:bS}(h:∀(j:Nat)(p:c),d[j]?≠some (k,p)):d.find? (λx=>decide (x.1=k))=none:=by rw[List.find?_eq_none];intro x b a;obtain⟨j,e⟩:=m3.mp b;have a:x.1=k:=rm a;exact h j x.2 (by rw[e,<-a])
structure jt(P:Sb)(w:World)(h:Heap)(d:Addr)(ys:List kz):Prop where ok:∃o es ep,h.get? d=some o/\o.ExactDict/\o.data=.dict es ep/\es.toList=ys.map (tI P w)nd:(ys.map (·.1)).Nodup
def ft{c a:Type}(d:List (bS×c×a))(k:bS):Option a:=(d.find? λy=>decide (y.1=k)).map (·.2.2)
def fB{a c:Type}(d:List (bS×a×c))(k:bS)(e:a)(v:c):List (bS×a×c):=if(ft d k).isSome then d.map λy=>if y.1=k then(y.1,y.2.1,v)else y else d++[(k,e,v)]
def OC{d:Addr}{e:List kz}{k:bS}{c:Value}{Q:Option Value->Shared->Prop}(g:A.units<cLine)(a:lJ P w s.heap k c)(hm:jt P w s.heap d e)(f:∀x∈e,lJ P w s.heap x.1 x.2.1)(q:Q (ft e k) {s with toks:=s.toks+kn k}):wpAny (model P w) A (dictGet d c) Q E s:=by
 obtain⟨o,m,n,b,hc,hd,h⟩:=hm.ok;unfold dictGet
 with_reducible refine p_ ?_
 refine a_ (Hs g a (a_ (Ht (s:={s with toks:=s.toks+kn k}) g a b hd h f hm.nd (λl=>?_) λj p i=>?_)))
 ·unfold ft at q;rw[xD l]at q;exact e_ q
 ·unfold ft at q;rw[DH hm.nd i]at q;refine a_ (wpAny_dictEntries (s:={s with toks:=s.toks+kn k}) b hd ?_);rw[OD h j,i];exact e_ q
def MO(a:List (bS×d×c))(k:bS)(v:c):(a.map λy=>if y.1=k then(y.1,y.2.1,v)else y).map (·.1)=a.map (·.1):=by
 rw[w1];refine Qf λy _=>?_;show(if y.1=k then(y.1,y.2.1,v)else y).1=y.1
 split<;>rfl
def OB{d:Addr}{f:List kz}{k:bS}{c v:Value}{Q:Unit->Shared->Prop}(u:A.units<cLine)(g:lJ P w s.heap k c)(hm:jt P w s.heap d f)(n:∀x∈f,lJ P w s.heap x.1 x.2.1)(D:f.length<sizeLine)(q:∀h',jt P w h' d (fB f k c v)->Heap.SameBut d s.heap h'->Q () {s with heap:=h',toks:=s.toks+kn k}):wpAny (model P w) A (dictSet d c v) Q E s:=by
 obtain⟨o,I,B,h,hc,hd,m⟩:=hm.ok;unfold dictSet
 with_reducible refine p_ ?_
 refine a_ (Hs u g ?_);unfold dictSetHashed
 with_reducible refine p_ ?_
 refine a_ (Ht (s:={s with toks:=s.toks+kn k}) u g h hd m n hm.nd (λC=>?_) λj p l=>?_)
 ·have r:fB f k c v=f++[(k,c,v)]:=by unfold fB ft;rw[xD C];rfl
  have F:k∉f.map (·.1):=λz=>by obtain⟨y,G,e⟩:=nk.mp z;obtain⟨j,l⟩:=m3.mp G;exact C j y.2 (by rw[l,<-e])
  rw[r]at q;refine a_ (wh (wpAny_updateDictKeys (hz:=by have:=Hq m;omega) (s:={s with toks:=s.toks+kn k}) h hd (q _ ⟨⟨_,_,B+1,s_ _ h (Obj.isFreed_of_dict (Obj.data_mapDictKeys hd _)),hc.mapDictKeys _,Obj.data_mapDictKeys hd _,?_⟩,?_⟩ (E1 ..))))
  ·rw[RO,m,k_];rfl
  ·rw[k_,rr];refine⟨hm.nd,by simp,λa H b t e=>F ?_⟩;have t:b=k:=List.mem_singleton.mp t;rw[<-t,<-e];exact H
 ·have r:fB f k c v=f.map λy=>if y.1=k then(y.1,y.2.1,v)else y:=by unfold fB ft;rw[DH hm.nd l];rfl
  rw[r]at q;refine a_ (wh (a_ (wpAny_updateDict (s:={s with toks:=s.toks+kn k}) h hd (wpAny_point (q _ ⟨⟨_,_,B,s_ _ h (Obj.isFreed_of_dict (Obj.data_mapDict hd _)),hc.mapDict _,Obj.data_mapDict hd _,?_⟩,by rw[MO];exact hm.nd⟩ (E1 ..))))));rw[Array.toList_modify,m];refine y2 λi=>?_;rw[List.getElem?_modify,j_,j_,j_];cases hi:f[i]?with|none=>by_cases e:j=i<;>simp[e]|some y=>
   by_cases e:j=i
   ·subst e;rw[l]at hi;cases hi;simp[tI]
   ·have:y.1≠k:=λz=>e (Hr hm.nd l (q:=y.2) (by rw[hi,<-z]));simp[e,this]
def jt.type(hm:jt P w s.heap d c):s.TypeIs (.ref d) "dict":=let⟨o,_,_,a,hc,_⟩:=hm.ok;⟨o,a,hc.1⟩
def jt.bare(hm:jt P w s.heap d c):∀b,Value.ref d=.ref b->∃ob,s.heap.get? b=some ob/\ob.dict=none:=λb e=>by cases e;obtain⟨o,_,_,a,hc,_⟩:=hm.ok;exact⟨o,a,hc.2.1⟩
def Cv(d:Addr)(a dflt:Value)(hd:(d==sysModules)=false):MeetsIn P w (Builtin.«dict.get» ⟨[.ref d,a,dflt],[]⟩) (λA R s=>A.in1.units<cLine/\∃k c,lJ P w s.heap k a/\jt P w s.heap d c/\(∀x∈c,lJ P w s.heap x.1 x.2.1)/\R (.ok (.ret ((ft c k).getD dflt))) {s with toks:=s.toks+kn k}):=.of_wp λA R s⟨e,k,c,f,hm,hi,h⟩=>by show wpAny (model P w) _ (dictGet d a>>=_) _ _ s;refine a_ (OC e f hm hi ?_);cases b:ft c k with|some v=>rw[b]at h;exact e_ ⟨v,rfl,h⟩|none=>rw[b]at h;exact a_ (wpAny_missed_other hd (e_ ⟨dflt,rfl,h⟩))
def ES(g:A.in1.units<cLine)(c:lJ P w s.heap k a)(hm:jt P w s.heap d e)(f:∀x∈e,lJ P w s.heap x.1 x.2.1)(h:e.length<sizeLine)(q:∀h',jt P w h' d (fB e k a v)->Heap.SameBut d s.heap h'->Q () {s with heap:=h',toks:=s.toks+kn k}):wpAny (model P w) A (setItem (.ref d) a v) Q E s:=by
 unfold setItem
 with_reducible refine p_ ?_
 refine a_ (wpAny_sequenceKey hm.type (by decide) (a_ (qx (name:=Str.ofString "__setitem__") hm.type slot_dict_setitem (qr slot_dict_setitem hm.type entry_dict_setitem ?_ (args_dict_setitem _ _ _)))));show wpAny (model P w) _ (Builtin.Dict.notOrdered "__setitem__" ⟨[.ref d,a,v],[]⟩>>=_) _ _ s;refine a_ (wpAny_notOrdered_dict hm.type ?_);show wpAny (model P w) A.in1 (dictSet d a v>>=_) _ _ s;exact a_ (OB g c hm f h λh' h1 h2=>e_ ⟨.none,rfl,e_ (q h' h1 h2)⟩)
end
abbrev iz:=bS×V×V
def rS(a:List iz)(c:List kz):Prop:=Paired (λ(p:iz)(q:kz)=>p.1=q.1/\aU p.2.1 q.2.1/\aU p.2.2 q.2.2) a c
abbrev dM(P:Sb)(w:World)(d:Addr)(c:List iz):HO:=.ext λh=>(d==sysModules)=false/\∃a,rS c a/\jt P w h d a
def cN(K:R7)(H:Hp)(k:bS)(v:V):Prop:=match k with|.inl k=>v=kV k|.inr []=>v=.non|.inr (k::b)=>∃a,v=.ref a/\aW K H a ((k::b).map kV)
def dF(K:R7)(H:Hp)(a:List iz):Prop:=∀x∈a,cN K H x.1 x.2.1
def jt.keep(m:jt P w h1 d a)(k:∀o,h1.get? d=some o->h2.get? d=some o):jt P w h2 d a:=let⟨o,b,c,e,r⟩:=m.ok;⟨⟨o,b,c,k o e,r⟩,m.nd⟩
def Lz(hd:(d==sysModules)=false)(r:rS a ys)(m:jt P w h d ys):cX P w H h d (dM P w d a):=⟨⟨hd,ys,r,m⟩,let⟨o,_,_,e,_⟩:=m.ok;⟨o,e⟩,λ_ _⟨h1,ys,h2,h3⟩k=>⟨h1,ys,h2,h3.keep k⟩⟩
def cN.is(I:aL X f l H s)(h:cN X.K H k v)(r:aU v u):lJ X.prog X.w s.heap k u:=by cases k with|inl k=>have h:v=kV k:=h;subst h;exact pK r|inr b=>cases b with|nil=>have h:v=.non:=h;subst h;exact r|cons k b=>obtain⟨a,rfl,g⟩:=h;cases r;obtain⟨i,j,⟨o,e,c,n,d⟩,_⟩:=I.tuple g;exact⟨a,rfl,o,_,n,e,c,d,rp j⟩
theorem rS.keys(I:aL X c g H s):∀{d:List iz}{e:List kz},rS d e->dF X.K H d->∀y∈e,lJ X.prog X.w s.heap y.1 y.2.1
 |_,_,.nil,_,y,b=>nomatch b|_,_,.cons (a:=p) r t,k,y,b=>by
  rcases pw.mp b with rfl|b
  ·rw[<-r.1];exact(k p mm).is I r.2.1
  ·exact rS.keys I t (λx f=>k x (k4 _ f)) y b
theorem rS.val:∀{a:List iz}{c:List kz},rS a c->∀k,k7 (ft a k) (ft c k)
 |_,_,.nil,_=>True.intro|p::a,q::c,.cons r t,k=>by
  unfold ft;rw[si,si,<-r.1]
  by_cases e:p.1=k
  ·rw[nn e];exact r.2.2
  ·rw[no e];exact rS.val t k
def rS.put(h:rS c d)(g:aU i j)(f:aU v u):rS (fB c k i v) (fB d k j u):=by
 have a:(ft c k).isSome=(ft d k).isSome:=(h.val k).isSome_eq;unfold fB;rw[a]
 split
 ·rename_i hc;clear a hc
  induction h with|nil=>exact .nil|@cons p q l m r t b=>
   refine .cons ?_ b;dsimp only;rw[<-r.1]
   by_cases e:p.1=k
   ·rw[kw e,kw e];exact⟨rfl,r.2.1,f⟩
   ·rw[ku e,ku e];exact r
 ·rename_i hc;clear a hc
  induction h with|nil=>exact .cons ⟨rfl,g,f⟩ .nil|cons r t b=>exact .cons r b
def rS.len(h:rS a c):a.length=c.length:=Paired.length h
section
variable{X:Cx}{P:Sb}{w:World}{o e f:Expr}{n g c:Pos}{l ty j:TE}
def LZ(P:Sb)(w:World):TE:=λ_ H Q=>∀p,H p=none->Q (.ref p) (aA H p (dM P w p []))
def Aw(d:X.prog=P:=by rfl)(i:X.w=w:=by rfl):PE X (.Dict [] [] n) (LZ P w):=λb s k H Q I h=>by subst d i;refine wpAny_Dict_empty ⟨.ref s.heap.objs.size,_,I.laid (a:=s.heap.objs.size) (o:=dM X.prog X.w s.heap.objs.size []) (t':=s.toks) (λ_ _ q=>b_ _ q) (f_ _) ?_,rfl,h _ (I.hok.fresh (f_ _))⟩;exact Lz (ys:=[]) (Es.mpr λz=>absurd (z▸I.big) (ri _)) .nil ⟨⟨_,#[],0,g_ _ rfl,⟨rfl,rfl,rfl⟩,rfl,rfl⟩,QM⟩
def LX(K:R7)(P:Sb)(w:World)(l ty j:TE):TE:=λd H Q=>l d H λx m=>∃a h,x=.ref a/\m a=some (dM P w a h)/\ty d m λy p=>j d p λz b=>∃i k,b a=some (dM P w a i)/\dF K b i/\cN K b k y/\Q ((ft i k).getD z) b
def uS(K:R7)(v:X.K=K)(B:X.A.units+1<cLine)(C:PE X o l)(D:PE X e ty)(E:PE X f j)(m:M2 X o "get" g e f c)(G:X.prog=P:=by rfl)(J:X.w=w:=by rfl):PE X (.Call (.Attribute o "get" g) [e,f] [] c) (LX K P w l ty j):=by subst G J v;intro b s q H Q I h;refine Qn m.base m.few m.line PySem.F.plainAttrs_dict PySem.F.slot_dict_get PySem.F.type_dict_get (cq (C b s q H _ I h) λu L⟨x,M,I1,N,a,O,ex,d,R⟩=>?_);subst ex;cases(show u=Value.ref a from N);obtain⟨⟨_,S,_,r⟩,_⟩:=I1.hok a _ d;refine⟨r.type,r.bare,?_⟩;rw[m.trees];refine sm rfl (w_ (rk (cq (D b L q M _ I1 R) λiv T⟨y,U,V,Y,Z⟩=>rk (cq (E b T q U _ V Z) λfv s3⟨z,H3,p,rz,xs,k,d3,ks,hk,q3⟩=>t_ ?_))));obtain⟨⟨hd,ys,i,t⟩,_⟩:=p.hok a _ d3;refine F_ PySem.F.slot_dict_get t.type PySem.F.entry_dict_get (PySem.F.args_dict_get_3 _ _ _) (Cv a iv fv hd) ⟨B,k,ys,hk.is p Y,t,i.keys p ks,?_⟩;exact⟨_,H3,p.tok _,(i.val k).getD rz,q3⟩
def Om(K:R7)(P:Sb)(w:World):Ld:=λo i v H Q=>∃a b k,o=.ref a/\H a=some (dM P w a b)/\dF K H b/\cN K H k i/\b.length<sizeLine/\Q (aA H a (dM P w a (fB b k i v)))
def B4(K:R7)(x:X.K=K)(y:X.A.units+1<cLine)(z:X.prog=P:=by rfl)(B:X.w=w:=by rfl):Lf X (Om K P w):=by subst z B x;intro p s L H o i v M iv u Q I C r D h;obtain⟨a,N,k,rfl,d,E,F,G,q⟩:=h;cases C;obtain⟨⟨hd,O,b,m⟩,_⟩:=I.hok a _ d;refine ES y (F.is I r) m (b.keys I E) (by rw[<-b.len];exact G) λh' t J=>?_;refine⟨_,t6 I (by rw[d];exact True.intro) J (let⟨o,_,_,e,_⟩:=t.ok;⟨o,e⟩) ?_,q⟩;exact Lz hd (b.put r D) t
end
end L2
namespace L2
open PySem PySem.W PyProof.Rows
section
variable{X:Cx}{o e c:Expr}{f:Str}{j g:Pos}{l n:TE}
def aG(K:R7)(a:X.K=K)(d:PE X e l)(h:attributeBase e f X.env (eval e X.env)=eval e X.env:=by rfl):PE X (.Attribute e f j) (N7 K l f):=by subst a;exact MB d h
def cu(K:R7)(a:X.K=K)(d:PE X o l)(h:PE X c n)(i:swapsWith c (some (.Attribute o f g)) j.line X.env=pure false:=by rfl):PS X (.Assign [.Attribute o f g] c j) (Oi K l n f):=by subst a;exact Mv d h i
def Oo:Ld:=λo i v H Q=>∃a b k,o=.ref a/\i=kV k/\H a=some (.dK b)/\b.length<sizeLine/\Q (aA H a (.dK (eY b k v)))
def qC(p:X.A.units+1<cLine):Lf X Oo:=by intro b s z H o i v B iv u Q I m r t h;obtain⟨a,w,k,rfl,rfl,d,x,q⟩:=h;cases m;exact Fm p I (Lj.k d x) r t λC y=>⟨_,y,q⟩
end
end L2
namespace L2
open PySem PySem.W PyProof.Rows
section
variable{P:Sb}{w:World}{A:Around}{E:R8}{s:Shared}
def HS(ty:s.TypeIs (.ref r) "list_reverseiterator")(q:Q false s):wpAny (model P w) A (Builtin.List.listLengthHint (.ref r)) Q E s:=by
 unfold Builtin.List.listLengthHint;refine a_ (Rc (r:=none) ty (by rw[Re,Qq];kernel_rfl) ?_);refine ta (λz=>absurd z (by decide+kernel)) (λ_=>?_);refine ta (λz=>absurd z (by decide)) (λ_=>?_);refine a_ (Rc (r:=some (.builtin "list_reverseiterator.__length_hint__")) ty (by rw[Re,Qq];kernel_rfl) ?_);generalize a:("list_reverseiterator.__length_hint__":String)=nm
 wp_delta
 rw[show splitId nm=some ("list_reverseiterator","__length_hint__")from by subst a;decide+kernel];subst a;refine a_ (Qs (T:="list_reverseiterator") (b:=true) ty (by rw[Rr];kernel_rfl) ?_);refine ta (λz=>absurd z (by decide)) (λ_=>?_);refine ta (λ_=>?_) (λz=>absurd (by decide+kernel) z);refine ta (λz=>absurd z (by decide+kernel)) (λ_=>?_);exact e_ q
def Cc(hh:A.handled=none)(p:s.heap.IsRevIter r l ((a.size:Int)-1))(D:s.heap.IsList l a)(hn:a.size<=sizeLine)(t:l≠r)(n:S≠r)(u:S≠l)(d:Value)(y:Nat)(G:s.heap.get? S=some {cls:=.type "list",data:=.seq #[] y})(q:∀h' tk g c,(∀b o,b≠S->b≠r->s.heap.get? b=some o->h'.get? b=some o)->h'.get? S=some {cls:=.type "list",dict:=none,data:=.seq g c,slots:=#[]}->ItemsOf (λi v=>a[a.size-1-i]?=some v) g a.size->R (.ok (.ret d)) {s with heap:=h',toks:=tk}):wpAny (model P w) A.in1 (Builtin.List.listExtendWith (.ref S) (.ref r) d) (λfin j=>match fin with|.done f=>R (.ok f) j|.again B=>B.quiet=true/\codeAny (model P w) A B R j) (λe j=>R (.error e) j) s:=by
 have W:=Walks.listRev (prog:=P) (w:=w) (A:=A.in1) hh r l t a;have go:∀(h:Heap)(k tk:Nat),h.IsRevIter r l ((a.size:Int)-1)->h.IsList l a->(∀b o,b≠S->s.heap.get? b=some o->h.get? b=some o)->h.get? S=some {cls:=.type "list",data:=.seq #[] k}->codeAny (model P w) A (.builtin "list.extend.loop" ⟨[.ref S,.ref r,d],[]⟩) R {s with heap:=h,toks:=tk}:=by
  intro h k tk x H I J;refine codeAny_extend_loopS W.toS hn S (by simp[n,u]) d a.size 0 _ #[] k rfl (n0 _) ⟨n0 _,by simpa using x,H⟩ J (ItemsOf.nil _) λj g c C K L=>?_;rw[Moved.eq_with C];refine q j.heap j.toks g c (λb o b1 b2 e=>C.heap b o (λm=>?_) (I b o b1 e)) K L;rcases pw.mp m with z|z
  ·exact b1 z
  ·exact b2 (List.mem_singleton.mp z)
 unfold Builtin.List.listExtendWith;refine a_ (RE p.typeIs ?_);have ne:Builtin.List.listSameRef (.ref S) (.ref r)=false:=by simp[Builtin.List.listSameRef,n]
 have M:(Value.type "list_reverseiterator"==Value.type "list")=false:=by decide
 have N:(Value.type "list_reverseiterator"==Value.type "tuple")=false:=by decide
 simp only[ne,M,N,Bool.or_false,Qk,Q4];refine a_ (wpAny_pyIter_revIter p (a_ (p_ (HS p.typeIs ?_))));refine ta (λz=>absurd z (by decide+kernel)) (λ_=>e_ ⟨Qg PySem.F.plain_extend_loop _,go s.heap y s.toks p D (λ_ _ _ e=>e) G⟩)
def GI(hh:A.handled=none)(u:s.heap.IsRevIter r l ((items.size:Int)-1))(x:s.heap.IsList l items)(hn:items.size<=sizeLine)(f:l≠r)(q:∀h' tk a c,(∀b o,b≠r->s.heap.get? b=some o->h'.get? b=some o)->h'.get? s.heap.objs.size=some {cls:=.type "list",dict:=none,data:=.seq a c,slots:=#[]}->ItemsOf (λi v=>items[items.size-1-i]?=some v) a items.size->Q (.ref s.heap.objs.size) {s with heap:=h',toks:=tk}):wpAny (model P w) A (call (.type "list") [.ref r]) Q E s:=by
 refine callType_codes (Q₁:=λobj k=>obj=.ref s.heap.objs.size/\k={s with heap:=s.heap.push {cls:=.type "list",data:=.seq #[]}}) PySem.F.called_list (PySem.F.typeCall_list_1 _) PySem.F.entry_list_init (code_list_new _ ⟨rfl,rfl⟩) λobj k z=>?_;obtain⟨rfl,rfl⟩:=z;have new:(s.heap.push {cls:=.type "list",data:=.seq #[]}).get? s.heap.objs.size=some {cls:=.type "list",data:=.seq #[]}:=g_ _ rfl;obtain⟨y,m,B,C⟩:=u;have n:s.heap.objs.size≠r:=ov (kl m);obtain⟨D,p,cl,G,dl⟩:=x;have t:s.heap.objs.size≠l:=ov (kl p);refine⟨⟨_,new,rfl⟩,PySem.F.args_list_init_2 _ _,?_⟩;show wpAny (model P w) _ (do let g<-Builtin.List.listItems (.ref s.heap.objs.size);Builtin.List.listUpdate (.ref s.heap.objs.size) (λ_=>#[]);letGo g.toList.reverse;Builtin.List.listExtendWith (.ref s.heap.objs.size) (.ref r) .none) _ _ _;refine a_ ?_;unfold Builtin.List.listItems;refine a_ (rl new rfl (e_ (a_ (RY new rfl (a_ (Rq ?_))))));have d:=s_ (Obj.mapSeq (λ_=>(#[]:Se))) new rfl;have keep:∀b o,b≠s.heap.objs.size->s.heap.get? b=some o->((s.heap.push {cls:=.type "list",data:=.seq #[]}).update s.heap.objs.size (Obj.mapSeq (λ_=>(#[]:Se)))).get? b=some o:=λb o h e=>by rw[t2 _ _ (pv h)];exact b_ _ e
 refine Cc (A:=A.in1) hh ⟨y,keep _ _ (pv n) m,B,C⟩ ⟨D,keep _ _ (pv t) p,cl,G,dl⟩ hn f n t .none _ d λh' tk a c H I J=>?_;exact⟨rfl,q h' tk a c (λb o h e=>H b o (l_ (kl e)) h (keep b o (l_ (kl e)) e)) I J⟩
end
section
variable{X:Cx}{e:Expr}{te:TE}{p1 p2 f d:Pos}
def NZ(K:R7)(te:TE):TE:=λc H Q=>te c H λx a=>∃p b,x=.ref p/\aX K a p b/\∀l,a l=none->Q (.ref l) (aA a l (.lst b.reverse))
def Cg(K:R7)(Z:X.K=K)(hc:X.calm=true)(g1:Gl X "list")(m1:X.mg "list"=none)(g2:Gl X "reversed")(m2:X.mg "reversed"=none)(he:PE X e te)(t:starEach [.Call (.Name "reversed" p2) [e] [] d] X.env=[(false,eval (.Call (.Name "reversed" p2) [e] [] d) X.env)]:=by rfl)(y:starEach [e] X.env=[(false,eval e X.env)]:=by rfl):PE X (.Call (.Name "list" p1) [.Call (.Name "reversed" p2) [e] [] d] [] f) (NZ K te):=by
 subst Z;intro m s L H Q I h;refine to (lK I g1 m1 L2.xU (callWith_type1 ?_ t));rw[t];show wpAny (model X.prog X.w) X.A (spliced [(false,eval (.Call (.Name "reversed" p2) [e] [] d) X.env)]) _ _ s;refine rk (to (lK I g2 m2 L2.xh (callWith_type1 ?_ y)));rw[y];show wpAny (model X.prog X.w) X.A (spliced [(false,eval e X.env)]) _ _ s;refine rk (cq (he m s L H _ I h) λu i⟨x,U,I1,V,p,Y,ex,hq,q⟩=>t_ ?_);subst ex;cases(show u=Value.ref p from V);obtain⟨g,M,⟨o,n,D,co,dd,ds⟩,N⟩:=I1.list hq;have hl:i.heap.IsList p g.toArray:=⟨o,D,co,n,ds⟩;refine call_reversed_list hl (t_ ?_);have pr:p≠i.heap.objs.size:=l_ (kl D);have O:aL X m L U {i with heap:=i.heap.push (revObj p ((g.toArray.size:Int)-1))}:=I1.kept (t':=i.toks) λb o e=>b_ _ e;refine GI (r:=i.heap.objs.size) (l:=p) (items:=g.toArray) (I.ok.hd hc) ⟨_,g_ _ rfl,rfl,rfl⟩ ⟨o,b_ _ D,co,n,ds⟩ (by simpa[<-M.length]using N) pr λh' tk k c kk sS R=>?_;have B:k.toList=g.reverse:=by
  refine y2 λj=>?_;have F:k.size=g.length:=by simpa using R.1
  rcases Rb j g.length with C|C
  ·have S:k[j]?=some (k[j]'(by lia)):=vl _;have G:=R.2 j _ S;rw[v_,S,List.getElem?_reverse C];simpa using G.symm
  ·rw[pa (by simpa[F]using C),pa (by simpa using C)]
 have I3:=O.laid (a:=(i.heap.push (revObj p ((g.toArray.size:Int)-1))).objs.size) (o:=.lst Y.reverse) (h':=(i.heap.push (revObj p ((g.toArray.size:Int)-1))).push {cls:=.type "list",data:=.seq k c}) (t':=tk) (λb u e=>b_ _ e) (f_ _) ⟨by rw[QI];exact N,g.reverse,c,M.reverse,by rw[<-B];exact g_ _ rfl⟩
 have J:i.heap.objs.size<(i.heap.push (revObj p ((g.toArray.size:Int)-1))).objs.size:=by rw[op];lia
 have I4:=I3.turned (it:=i.heap.objs.size) (h':=h') (t':=tk) (λb o hb e=>?_) (by rw[ak (l_ J)];exact I1.hok.fresh (f_ _)) (ov I1.lt) (.inr I1.sz) (λx c e z=>by obtain⟨v,o,T,_⟩:=I1.cell x c e;rw[z]at T;exact absurd (kl T) (ri _)) (λpp hp z=>by have:=(I1.pin pp hp).1;rw[z]at this;exact absurd (kl this) (ri _))
 ·exact⟨.ref (i.heap.push (revObj p ((g.toArray.size:Int)-1))).objs.size,_,I4,rfl,q _ (O.hok.fresh (f_ _))⟩
 ·by_cases z:b=(i.heap.push (revObj p ((g.toArray.size:Int)-1))).objs.size
  ·subst z;rw[g_ _ rfl]at e;cases e;exact sS
  ·rcases Qa e with⟨z2,_⟩|G
   ·exact absurd z2 z
   ·exact kk b o hb G
end
end L2
namespace L2
open PySem PySem.W PyProof.Rows
section
variable{P:Sb}{w:World}{A:Around}{E:R8}{s:Shared}
end
section
variable{X:Cx}{P:Sb}{w:World}{o e f i:Expr}{d c a:Pos}{h ty g:TE}
end
end L2
namespace L2
open PySem
seal L2.xi L2.PS L2.PE L2.PT L2.PA L2.PI L2.PG L2.PW L2.Np L2.PO
section
variable{X:Cx}
end
section
variable{X:Cx}
def FA:cO X (.builtin "isinstance") (λc H Q=>∃x T t b,c=[x,.ty T]/\(mI X.K H x t\/∃p d,x=.ref p/\aW X.K H p d/\t=.type "tuple")/\PySem.W.kitOne X.K t (.type T)=some b/\Q (.bl b) H):=by
 intro a s f H c g Q I r h;obtain⟨x,T,t,b,rfl,ty,e,q⟩:=h;rcases ty with ty|⟨p,d,rfl,i,rfl⟩
 ·exact Bw a s f H _ g Q I r ⟨x,T,t,b,rfl,ty,e,q⟩
 ·obtain⟨u,j,rfl,k,rt⟩:=xm r;obtain rfl:j=Value.type T:=rt;cases k;obtain⟨l,_,⟨o,h1,h2,_⟩,_⟩:=I.tuple i;exact PySem.W.kia_one PySem.W.kitx_tuple I.kIn ⟨o,h1,h2⟩ e (nofun) λtk=>⟨.bl b,H,I.tok tk,rfl,q⟩
def eS(K:R7)(a:X.K=K):cO X (.builtin "isinstance") (λc H Q=>∃x T t b,c=[x,.ty T]/\(mI K H x t\/∃p d,x=.ref p/\aW K H p d/\t=.type "tuple")/\PySem.W.kitOne K t (.type T)=some b/\Q (.bl b) H):=by subst a;exact FA
end
end L2
namespace L2
open PySem PySem.Spec PyProof.Rows
section
variable{X:Cx}{a:Expr}
end
section
variable{X:Cx}
end
end L2
namespace L2
open PySem PySem.Spec PyProof.Rows
def Lg(K:R7)(pm:Params)(a:Addr):Prop:=(a==sysModules)=false/\∃b n,K.lookup a=some ⟨.type "dict",none,.dict b n,#[]⟩/\PySem.W.KeysLit pm b.toList
def P5(K:R7)(t:Addr)(c:List V):Prop:=∃(o:Obj)(a:Se)(n:Nat),K.lookup t=some o/\o.cls=.type "tuple"/\o.data=.seq a n/\a.size<=sizeLine/\a9 c a.toList
def P5.sq{K:R7}{t:Addr}{a:List V}(h:P5 K t a)(H:Hp):aW K H t a:=.inr h
section
variable{X:Cx}{o i:Expr}{a:Pos}{c ty:TE}
end
end L2
namespace L2
open PySem PySem.Spec PyProof.Rows
section
variable{X:Cx}{o i:Expr}{a:Pos}{c ty:TE}
end
end L2
namespace L2
open PySem PySem.Spec PyProof.Rows
section
variable{prog:Sb}{w:World}{A:Around}{E:R8}{s:Shared}{d:Type}[DecidableEq d][BEq d][LawfulBEq d]
set_option maxHeartbeats 3200000 in
def yr(n:PySem.KeyKind prog w d)(hh:A.handled=none)(P:s.heap.IsTuple l h)(t:∀i v,h[i]?=some v->n.is (key i) v=true/\v.scannable=true)(x:h.size+1<scanBound)(k:∀(h':Heap)(tk:Nat),jx n key s.heap.objs.size h.size h'->(∀b o,s.heap.get? b=some o->h'.get? b=some o)->Q (.ref s.heap.objs.size) {s with heap:=h',toks:=tk}):wpAny (model prog w) A (call (.type "set") [.ref l]) Q E s:=by
 obtain⟨c,X,I⟩:=F.called_set.mro;have made:=F.called_set.made;have sub:=F.called_set.sub;have Y:=F.called_set.notType;have Z:=F.called_set.canCreate;have tc:=RU (.ref l);refine Q_ (Rg ?_);show wpAny _ _ (callAny (.type "set") _) _ _ _;refine e_ ⟨RC _ (by decide+kernel),u1 RM ?_⟩;rw[RD (Rk "set" [.ref l] []) rfl]
 (repeat(any_goals(first|assumption|wp_step)));skip
 refine t1 (code_set_new_1 (.ref l) (E:=E) (Q₁:=λu s₁=>∃led:Bool,u=.ref s.heap.objs.size/\s₁={s with heap:=s.heap.push (be led)}) λled=>⟨led,rfl,rfl⟩) λr s₁ C=>?_;cases r with|error e=>exact C|ok O=>cases O with
 |ret u=>
   obtain⟨led,rfl,rfl⟩:=C;have K:(s.heap.push (be led)).get? s.heap.objs.size=some (be led):=g_ _ rfl;have ty:Shared.TypeIs {s with heap:=s.heap.push (be led)} (.ref s.heap.objs.size) "set":=⟨_,K,rfl⟩;have li:=F.called_set.init.lookup;have bi:=F.called_set.init.bind (.ref s.heap.objs.size)
   (repeat(any_goals(first|assumption|wp_step)));skip
   refine t1 (Rs (R:=wants (λr m=>r=.none/\∃h' tk,m={s with heap:=h',toks:=tk}/\jx n key s.heap.objs.size h.size h'/\∀b o,s.heap.get? b=some o->h'.get? b=some o) E) F.called_set.init.plain RW (RR ty ?_)) λy m j=>?_
   ·obtain⟨⟨cl,S,dt,sl⟩,e,L,M,N⟩:=id P;simp only at L N;subst L;subst N;have T:(s.heap.push (be led)).get? l=some {cls:=.type "tuple",dict:=S,data:=.seq h M,slots:=sl}:=b_ _ e;have s1:=F.sub_tuple_set;have s2:=F.sub_tuple_frozenset;have ne:(Value.type "tuple"==Value.type "dict")=false:=by decide
    have z:(s.heap.push (be led)).IsTuple l h:=⟨_,T,rfl,M,rfl⟩;unfold Builtin.«set.__init__»noKeywords Builtin.Frozenset.updateFrom;generalize D:pyIter=PI;wp_walk;subst D;refine z4 z ?_;refine a_ (Rp ?_);have lt:l<s.heap.objs.size:=kl e;have sz:(s.heap.push (be led)).objs.size=s.heap.objs.size+1:=op ..;refine Ag n ((Walks.tuple (A:=A.in1.in1.in1) (by simp[hh]) _ l (by rw[sz];exact l_ (r_ lt)) h).toS) (a:=s.heap.objs.size) (by rw[sz];simp only[pw,oi,vr,not_or];exact⟨l_ (rV _),ov lt⟩) key t x (h.size-0) 0 _ (by lia) (n0 _) ⟨⟨_,g_ _ rfl,rfl,rfl⟩,z.push _⟩ ?f0 ?fR
    case f0=>have g:((s.heap.push (be led)).push {cls:=.type "tuple_iterator",data:=.fields #[.ref l,.int 0 0]}).get? s.heap.objs.size=some (be led):=b_ _ K;exact SetOf_congr ((setObjOf_fresh (knd:=n) led).setOf g (by unfold scanBound;lia)) (λ_=>rfl) rfl
    case fR=>rintro⟨h',U,V,G,H⟩B f;obtain rfl:U=s.gens:=B.gens;obtain rfl:V=s.drawn:=B.drawn;obtain rfl:H=s.os:=B.os;show wpAny _ _ _ _ _ _;refine e_ (show wpAny _ _ (ret Value.none) _ _ _ from e_ ⟨rfl,h',G,rfl,f,λb o q=>?_⟩);have b1:b<s.heap.objs.size:=kl q;exact B.heap b o (by rw[sz];simp only[pw,oi,vr,not_or];exact⟨l_ b1,l_ (r_ b1)⟩) (b_ _ (b_ _ q))
   ·cases y with|error e=>exact j|ok p=>cases p with|ret r=>
      obtain⟨rfl,h',tk,rfl,f,W⟩:=j
      (repeat(any_goals(first|assumption|wp_step)));exact k _ _ f W|_=>exact j.elim
  |_=>exact C.elim
end
section
variable{X:Cx}
def Fw(hc:X.calm=true):cO X (.type "set") (λd H Q=>∃(p:Addr)(a:List cg),d=[.ref p]/\aW X.K H p (a.map kV)/\a.length<4000/\∀q,H q=none->Q (.ref q) (aA H q (Ah X.prog X.w q (λk=>(dd a).any (·==k)) (dd a).length))):=by
 intro j s J H d L Q I r h;obtain⟨p,a,rfl,z,l,q⟩:=h;obtain⟨u,rfl,A⟩:=jJ r;cases A;obtain⟨b,m,pl,M⟩:=I.tuple z;have n:=m.length;rw[c_]at n;refine yr (aK X.prog X.w) (key:=λi=>a.getD i (.inl 0)) (I.ok.hd hc) (show s.heap.IsTuple p b.toArray from pl) (λi v c=>?_) (by rw[lh];unfold scanBound;lia) λh' tk f C=>?_
 ·have c:b[i]?=some v:=by simpa using c
  have hi:i<b.length:=(d_.mp c).1;obtain⟨u,h1,h2⟩:=m.get (i:=i) (x:=kV (a[i]'(by lia))) (by rw[j_,h_ (by lia)];rfl);rw[c]at h1;cases h1;have e:a.getD i (.inl 0)=a[i]'(by lia):=by simp[List.getD,h_ (show i<a.length by lia)]
  show(aK X.prog X.w).is (a.getD i (.inl 0)) v=true/\_;rw[e,oF];exact ze h2
 ·have f:h'.SetOf (aK X.prog X.w) s.heap.objs.size (λk=>(dd a).any (·==k)) (dd a).length:=by
   have y:h'.SetOf (aK X.prog X.w) s.heap.objs.size (λk=>(lX (λi=>a.getD i (.inl 0)) b.toArray.size).any (·==k)) (lX (λi=>a.getD i (.inl 0)) b.toArray.size).length:=f;have D:b.toArray.size=a.length:=by rw[lh];exact n.symm
   rw[D,yR]at y;exact y
  refine⟨.ref s.heap.objs.size,_,I.laid (h':=h') (t':=tk) (o:=Ah X.prog X.w s.heap.objs.size (λk=>(dd a).any (·==k)) (dd a).length) C (f_ _) ⟨f,?_,λh1 h2 g E=>?_⟩,rfl,q _ (I.hok.fresh (f_ _))⟩
  ·obtain⟨o,_,_,_,e,_⟩:=f;exact⟨o,e⟩
  ·obtain⟨o,F,G,t,e,mj⟩:=g;exact⟨o,F,G,t,E o e,mj⟩
def Di(K:R7)(c:X.K=K)(hc:X.calm=true)(d:X.prog=P:=by rfl)(e:X.w=w:=by rfl):cO X (.type "set") (λf H Q=>∃(p:Addr)(a:List cg),f=[.ref p]/\aW K H p (a.map kV)/\a.length<4000/\∀q,H q=none->Q (.ref q) (aA H q (Ah P w q (λk=>(dd a).any (·==k)) (dd a).length))):=by subst c;subst d;subst e;exact Fw hc
end
end L2
namespace L2
open PySem PySem.Spec PyProof.Rows
section
variable{P:Sb}{w:World}{A:Around}{E:R8}{s:Shared}
def oS(c:s.heap.IsTupleIter j t k)(f:s.heap.IsTuple t d)(h:d[k]?=some v)(q:∀g,g.IsTupleIter j t (k+1)->Heap.SameBut j s.heap g->Q v {s with heap:=g}):wpAny (model P w) A (Builtin.SmallTypes.nextOf (.ref j)) Q E s:=by obtain⟨ob,b,i,a⟩:=id c;obtain⟨l,f1,_,m,f3⟩:=f;unfold Builtin.SmallTypes.nextOf;refine a_ (qx (name:=Str.ofString "__next__") c.typeIs Qb (qr Qb c.typeIs F.entry_tuple_iterator_next ?_ (R6 _)));refine(show wpAny _ _ (field (.ref j) 0>>=_) _ _ s from a_ (rx b a (x:=.ref t) rfl ?_));refine(show wpAny _ _ (if(Value.ref t==Value.none)=true then _ else(field (.ref j) 1>>=_)) _ _ s from ?_);rw[ku (show¬(Value.ref t==Value.none)=true fromλz=>mo z)];refine a_ (rx b a (x:=.int k 0) rfl ?_);refine(show wpAny _ _ (seqItems? (.ref t)>>=_) _ _ s from a_ (rl f1 f3 ?_));simp only[ot,h];refine a_ (wpAny_setField b a (by simp) (e_ ⟨v,rfl,e_ (q _ ⟨_,s_ _ b (Obj.isFreed_of_fields (Obj.data_mapFields a _)),(Obj.cls_mapFields ..).trans i,?_⟩ (E1 ..))⟩));rw[Obj.data_mapFields a];simp[rawInt]
def zX(hh:A.handled=none)(c:s.heap.IsTupleIter j t k)(h:s.heap.IsTuple t d)(i:d[k]?=none)(q:∀g x,Heap.ExtBut j s.heap g->(∃ob,g.get? x=some ob/\ob.cls=.type "StopIteration")->E (.ref x) {s with heap:=g}):wpAny (model P w) A (Builtin.SmallTypes.nextOf (.ref j)) Q E s:=by
 obtain⟨ob,b,l,e⟩:=id c;obtain⟨n,f1,_,o,f3⟩:=h;unfold Builtin.SmallTypes.nextOf;refine a_ (qx (name:=Str.ofString "__next__") c.typeIs Qb (qr Qb c.typeIs F.entry_tuple_iterator_next ?_ (R6 _)));refine(show wpAny _ _ (field (.ref j) 0>>=_) _ _ s from a_ (rx b e (x:=.ref t) rfl ?_));refine(show wpAny _ _ (if(Value.ref t==Value.none)=true then _ else(field (.ref j) 1>>=_)) _ _ s from ?_);rw[ku (show¬(Value.ref t==Value.none)=true fromλz=>mo z)];refine a_ (rx b e (x:=.int k 0) rfl ?_);refine(show wpAny _ _ (seqItems? (.ref t)>>=_) _ _ s from a_ (rl f1 f3 ?_));simp only[ot,i];refine a_ (wh (a_ (wpAny_setField b e (by simp) (show wpAny _ _ (newExc (.type "StopIteration") []>>=_) _ _ _ from a_ ?_))));simp only[newExc,newTuple];refine a_ (q4 (a_ (m:=firstArgMember _ _) (wpAny_of_eq (a:=Value.none) (by first|rfl|(simp only[firstArgMember];rfl)) (q4 ?_ (by size_fits)))) (by size_fits));simp only[raiseNew];refine a_ (wpAny_handled ?_)
 first|rw[show A.in1.handled=none from hh]|rw[hh]
 exact a_ (e_ (wpAny_throw (q _ _ (((E1 ..).extBut.push _).push _) ⟨_,g_ _ rfl,rfl⟩)))
def BG(z a d e:Addr)(h g:Heap):Prop:=∀c ob,c≠z->c≠a->c≠d->c≠e->h.get? c=some ob->g.get? c=some ob
def D9{z h d j n t l:Addr}{L M:Nat}{Z ys:Se}{x y a b:Value}{Q:R8}(D:ZipApart z h d j n t l)(B:IsZip s.heap z h d .none)(p1:IsPair s.heap h (.ref j) (.ref n))(p2:IsPair s.heap d a b)(i1:s.heap.IsTupleIter j t L)(i2:s.heap.IsListIter n l M)(tt:s.heap.IsTuple t Z)(ll:s.heap.IsList l ys)(hx:Z[L]?=some x)(hy:ys[M]?=some y)(q:∀g,IsZip g z h d (rawInt s.heap.objs.size)->IsPair g d x y->g.IsTupleIter j t (L+1)->g.IsListIter n l (M+1)->IsPair g s.heap.objs.size x y->g.objs.size=s.heap.objs.size+1->BG z d j n s.heap g->Q (.ref s.heap.objs.size) {s with heap:=g}):wpAny (model P w) A (Builtin.«zip.__next__» ⟨[.ref z],[]⟩) (λfin s'=>∃v,fin=.done (.ret v)/\Q v s') E s:=by
 refine(show wpAny _ _ (field (.ref z) 2>>=_) _ _ _ from a_ (rx B rfl (x:=.bool false) rfl ?_));refine(show wpAny _ _ (field (.ref z) 3>>=_) _ _ _ from a_ (rx B rfl (x:=.ref h) rfl (a_ (rl p1 rfl ?_))));refine(show wpAny _ _ (Builtin.SmallTypes.ownedTupleIsFree (.ref z)>>=_) _ _ _ from a_ ?_);unfold Builtin.SmallTypes.ownedTupleIsFree;refine a_ (rx B rfl (x:=.none) rfl (e_ ?_));simp only[Rw];refine a_ (wh (a_ (rx B rfl (x:=.ref d) rfl (a_ (qq B (by simp) λg1 O k=>?_)))))
 replace O:IsZip g1 z h d .ellipsis:=O
 refine a_ ?_;simp only[RS,R3,QF,List.forIn_nil];refine a_ (a_ (QX (show wpAny _ _ (Builtin.SmallTypes.nextOf (.ref j)>>=_) _ _ _ from a_ (oS (i1.extBut k.extBut D.i1z) (tt.extBut k.extBut D.l1z) hx λg2 R r=>e_ ?_))));have C:IsPair g2 d a b:=r.extBut _ _ D.TOi1 (k.extBut _ _ D.TOz p2);refine a_ (rl C rfl (a_ (QA C λg3 m u=>?_)))
 replace m:IsPair g3 d x b:=m
 refine a_ (Rq (e_ (a_ (a_ (QX ?_)))));refine(show wpAny _ _ (Builtin.SmallTypes.nextOf (.ref n)>>=_) _ _ _ from a_ (wpAny_nextOf_list_item (((i2.extBut k.extBut D.i2z).extBut r.extBut D.i12.symm).extBut u.extBut D.TOi2.symm) (((ll.extBut k.extBut D.l2z).extBut r.extBut D.l2i1).extBut u.extBut D.l2TO) hy λg4 S F=>e_ ?_))
 have G:IsPair g4 d x b:=F.extBut _ _ D.TOi2 m;refine a_ (rl G rfl (a_ (QA G λf i H=>?_)))
 replace i:IsPair f d x y:=i
 refine a_ (Rq (e_ (e_ (a_ (rl i rfl (a_ (wpAny_newTuple ?_)))))));have sz:f.objs.size=s.heap.objs.size:=by rw[H.1,F.1,u.1,r.1,k.1]
 have z5:IsZip f z h d .ellipsis:=H.extBut _ _ D.TOz.symm (F.extBut _ _ D.i2z.symm (u.extBut _ _ D.TOz.symm (r.extBut _ _ D.i1z.symm O)));have k5:BG z d j n s.heap f:=λc o p K T U e=>H.extBut _ _ K (F.extBut _ _ U (u.extBut _ _ K (r.extBut _ _ T (k.extBut _ _ p e))));have V:f.IsTupleIter j t (L+1):=((R.extBut u.extBut D.TOi1.symm).extBut F.extBut D.i12).extBut H.extBut D.TOi1.symm;have W:f.IsListIter n l (M+1):=S.extBut H.extBut D.TOi2.symm;have zl:z<f.objs.size:=kl z5;refine(show wpAny _ _ (Builtin.SmallTypes.ownedTupleHandOut (.ref z) (.ref f.objs.size)>>=_) _ _ _ from a_ ?_);unfold Builtin.SmallTypes.ownedTupleHandOut;have z6:IsZip (f.push {cls:=.type "tuple",data:=.seq #[x,y]}) z h d .ellipsis:=b_ _ z5;refine a_ (qq z6 (by simp) λg7 X Y=>?_)
 replace X:IsZip g7 z h d (rawInt f.objs.size):=X
 refine qq X (by simp) λI N s8=>?_
 replace N:IsZip I z h d (rawInt f.objs.size):=N
 have up:∀c ob,c≠z->f.get? c=some ob->I.get? c=some ob:=λc ob p e=>s8.extBut _ _ p (Y.extBut _ _ p (b_ _ e));have pn:IsPair I f.objs.size x y:=s8.extBut _ _ (ov zl) (Y.extBut _ _ (ov zl) (g_ _ rfl));have J:I.objs.size=f.objs.size+1:=by rw[s8.1,Y.1,op]
 rw[sz]at N pn J;refine e_ ⟨_,rfl,(show Q (.ref f.objs.size) _ from ?_)⟩;rw[sz];exact q I N (up _ _ D.TOz i) (V.at λob e=>up _ ob D.i1z e) (W.at λob e=>up _ ob D.i2z e) pn J λc ob p K T U e=>up c ob p (k5 c ob p K T U e)
def D8(hh:A.handled=none)(D:ZipApart z i h n p t l)(j:IsZip s.heap z i h .none)(p1:IsPair s.heap i (.ref n) (.ref p))(p2:IsPair s.heap h a b)(B:s.heap.IsTupleIter n t C)(F:s.heap.IsTuple t G)(H:G[C]?=none)(q:∀g e,BG z h n p s.heap g->(∃ob,g.get? e=some ob/\ob.cls=.type "StopIteration")->E (.ref e) {s with heap:=g}):wpAny (model P w) A (Builtin.«zip.__next__» ⟨[.ref z],[]⟩) Q E s:=by
 refine(show wpAny _ _ (field (.ref z) 2>>=_) _ _ _ from a_ (rx j rfl (x:=.bool false) rfl ?_));refine(show wpAny _ _ (field (.ref z) 3>>=_) _ _ _ from a_ (rx j rfl (x:=.ref i) rfl (a_ (rl p1 rfl ?_))));refine(show wpAny _ _ (Builtin.SmallTypes.ownedTupleIsFree (.ref z)>>=_) _ _ _ from a_ ?_);unfold Builtin.SmallTypes.ownedTupleIsFree;refine a_ (rx j rfl (x:=.none) rfl (e_ ?_));simp only[Rw];refine a_ (wh (a_ (rx j rfl (x:=.ref h) rfl (a_ (qq j (by simp) λI m o=>?_)))))
 replace m:IsZip I z i h .ellipsis:=m
 refine a_ ?_;simp only[RS,R3,QF,List.forIn_nil];refine a_ (a_ (QX (show wpAny _ _ (Builtin.SmallTypes.nextOf (.ref n)>>=_) _ _ _ from a_ (zX hh (B.extBut o.extBut D.i1z) (F.extBut o.extBut D.l1z) H λJ e r K=>?_))));obtain⟨L,f,k⟩:=K;have u:IsZip J z i h .ellipsis:=r _ _ D.i1z.symm m;have M:e≠z:=λc=>by subst c;rw[u]at f;cases f;simp at k
 exact qq u (by simp) λN _ v=>q N e (λc ob y _ O _ d=>v.extBut _ _ y (r _ _ O (o.extBut _ _ y d))) ⟨L,v.extBut _ _ M f,k⟩
def Ea(D:ZipApart z f c d e t l)(h:IsZip s.heap z f c .none)(p1:IsPair s.heap f (.ref d) (.ref e))(p2:IsPair s.heap c a b)(n:s.heap.IsTupleIter d t i)(o:s.heap.IsListIter e l j)(p:s.heap.IsTuple t r)(u:s.heap.IsList l v)(B:r[i]?=some x)(C:v[j]?=some y)(q:∀g,IsZip g z f c (rawInt s.heap.objs.size)->IsPair g c x y->g.IsTupleIter d t (i+1)->g.IsListIter e l (j+1)->IsPair g s.heap.objs.size x y->g.objs.size=s.heap.objs.size+1->BG z c d e s.heap g->Q (some (.ref s.heap.objs.size)) {s with heap:=g}):wpAny (model P w) A (pyNext (.ref z)) Q E s:=by have ty:s.TypeIs (.ref z) "zip":=⟨_,h,rfl⟩;unfold pyNext;refine a_ (Qy (qx (name:=Str.ofString "__next__") ty Qj (qr Qj ty RV (D9 D h p1 p2 n o p u B C λg a1 m G a4 H I J=>?_) (RN _))));exact e_ (q g a1 m G a4 H I J)
def zT(hh:A.handled=none)(D:ZipApart z f c d h t l)(i:IsZip s.heap z f c .none)(p1:IsPair s.heap f (.ref d) (.ref h))(p2:IsPair s.heap c a b)(n:s.heap.IsTupleIter d t o)(p:s.heap.IsTuple t r)(u:r[o]?=none)(q:∀g,BG z c d h s.heap g->Q none {s with heap:=g}):wpAny (model P w) A (pyNext (.ref z)) Q E s:=by have ty:s.TypeIs (.ref z) "zip":=⟨_,i,rfl⟩;unfold pyNext;refine a_ (Qy (qx (name:=Str.ofString "__next__") ty Qj (qr Qj ty RV (D8 hh D i p1 p2 n p u λg e k m=>?_) (RN _))));obtain⟨ob,h1,h2⟩:=m;exact a_ (Qs (T:="StopIteration") (b:=true) ⟨ob,h1,h2⟩ isSubtype_stop (e_ (q g k)))
abbrev Jh(h:Heap)(t:Addr):Heap:=h.push {cls:=.type "tuple_iterator",data:=.fields #[.ref t,.int 0 0]}
abbrev Pc(h:Heap)(t l:Addr):Heap:=(Jh h t).push {cls:=.type "list_iterator",data:=.fields #[.ref l,.int 0 0]}
abbrev Pb(h:Heap)(t l:Addr):Heap:=(Pc h t l).push {cls:=.type "tuple",data:=.seq #[.ref h.objs.size,.ref (Jh h t).objs.size]}
abbrev Pa(h:Heap)(t l:Addr):Heap:=(Pb h t l).push {cls:=.type "tuple",data:=.seq #[.none,.none]}
abbrev Nv(h:Heap)(t l:Addr):Heap:=(Pa h t l).push {cls:=.type "zip",data:=.fields #[.none,.bool false,.bool false,.ref (Pc h t l).objs.size,.ref (Pb h t l).objs.size]}
def Cu(t l:Addr)(a c:Se):Meets (Builtin.«zip.__new__» ⟨[.type "zip",.ref t,.ref l],[]⟩) (λ_ R s=>s.heap.IsTuple t a/\s.heap.IsList l c/\R (.ok (.ret (.ref (Pa s.heap t l).objs.size))) {s with heap:=Nv s.heap t l}):=.of_wp λprog w A R s h=>by
  obtain⟨b,g,d,tk,os⟩:=s;obtain⟨h1,h2,h⟩:=h;have e:=sub_zip;have f:Heap.IsTuple (Shared.heap ⟨b,g,d,tk,os⟩) t a:=h1;have i:Heap.IsList (Shared.heap ⟨b.push {cls:=.type "tuple_iterator",data:=.fields #[.ref t,.int 0 0]},g,d,tk,os⟩) l c:=Heap.IsList.push h2 _
  wp_walk using z4 f,K_ i
  exact⟨_,rfl,h⟩
def Ft(h1:s.heap.IsTuple t n)(h2:s.heap.IsList l p)(q:∀g,IsZip g (s.heap.objs.size+4) (s.heap.objs.size+2) (s.heap.objs.size+3) .none->IsPair g (s.heap.objs.size+2) (.ref s.heap.objs.size) (.ref (s.heap.objs.size+1))->IsPair g (s.heap.objs.size+3) .none .none->g.IsTupleIter s.heap.objs.size t 0->g.IsListIter (s.heap.objs.size+1) l 0->(∀c o,s.heap.get? c=some o->g.get? c=some o)->Q (.ref (s.heap.objs.size+4)) {s with heap:=g}):wpAny (model P w) A (call (.type "zip") [.ref t,.ref l]) Q E s:=by
 refine callType_new F.called_zip (by decide) (F.typeCall_zip_2 _ _) (F.newCall_zip_2 _ _) (λob=>F.args_object_init_3 ob _ _) F.entry_zip_new (Cu t l n p) ⟨h1,h2,?_⟩;have a:(Jh s.heap t).objs.size=s.heap.objs.size+1:=op ..;have b:(Pc s.heap t l).objs.size=s.heap.objs.size+2:=by rw[op,a]
 have e:(Pb s.heap t l).objs.size=s.heap.objs.size+3:=by rw[op,b]
 have h:(Pa s.heap t l).objs.size=s.heap.objs.size+4:=by rw[op,e]
 have f:(Nv s.heap t l).get? (Pa s.heap t l).objs.size=some _:=g_ _ rfl;have i:(Nv s.heap t l).get? (Pb s.heap t l).objs.size=some _:=b_ _ (g_ _ rfl);have j:(Nv s.heap t l).get? (Pc s.heap t l).objs.size=some _:=b_ _ (b_ _ (g_ _ rfl));have k:(Nv s.heap t l).get? (Jh s.heap t).objs.size=some _:=b_ _ (b_ _ (b_ _ (g_ _ rfl)));have m:(Nv s.heap t l).get? s.heap.objs.size=some _:=b_ _ (b_ _ (b_ _ (b_ _ (g_ _ rfl))));show _/\_;rw[b,e,h]at f;rw[a,b]at j;rw[e]at i;rw[a]at k;rw[h];exact⟨⟨_,f,rfl⟩,q _ f j i ⟨_,m,rfl,rfl⟩ ⟨_,k,rfl,rfl⟩ λc ob d=>b_ _ (b_ _ (b_ _ (b_ _ (b_ _ d))))⟩
end
def gG{X:Cx}{a:R9}{g:St}{H:Hp}{s:Shared}{h':Heap}{t':Nat}{ch:Sg}(I:aL X a g H s)(k:∀b o,b∉ch->s.heap.get? b=some o->h'.get? b=some o)(f:∀b∈ch,vO X a H b):aL X a g H {s with heap:=h',toks:=t'}:=by
 have d:∀b u,H b=some u->b∉ch:=λb u e z=>by rw[(f b z).1]at e;cases e
 refine I.step (g':=s.gens) (d':=s.drawn) (ch:=ch) (λb h=>?_) (λb o _ _ hc e _=>k b o hc e) (λb o _ _ hc e _=>⟨o.slots,k b o hc e⟩) (λ_ _ _ _ n=>n) (λb o hc e=>⟨o,k b o hc e⟩) (λ_ _ e=>e) (λ_ _ _ e=>e) (λb y e=>⟨#[],by rw[e];simp⟩) (λm hm=>?_) (λb u e=>?_) I.bare
 ·obtain⟨_,f1,_,f3,i,j⟩:=f b h;exact⟨f3,f1,i,j⟩
 ·obtain⟨o,l,p,t,r⟩:=hm;exact⟨o,l,p,k _ o (λz=>(f _ z).2.1 rfl) t,r⟩
 ·refine(I.hok b u e).stay (λc v hc q=>k c v ?_ q) (λ_ q=>q) λ_ _ q=>q;rcases hc with z|z
  ·rw[z];exact d b u e
  ·exact d c _ z
def LE(K:R7)(t l:Addr):It:=⟨λi H=>∃a b x y,aW K H t a/\aX K H l b/\a[i]?=some x/\b[i]?=some y,λi H v c=>∃T x y,H T=none/\v=.ref T/\c=aA H T (.tup [x,y])/\∀a b,aW K H t a->aX K H l b->a[i]?=some x/\b[i]?=some y,λi H=>∃a,aW K H t a/\a.length<=i⟩
def FU{P:Sb}{w:World}{K:R7}{J:Sd}{x1:Nat}{Q:Pos}{z j n q r t l:Addr}(D:ZipApart z j n q r t l):vK P w K (.Tuple J x1 Q) (LE K t l) [z,j,n,q,r] z (λi h=>IsZip h z j n .none/\IsPair h j (.ref q) (.ref r)/\(∃a b,IsPair h n a b)/\h.IsTupleIter q t i/\h.IsListIter r l i)where
 mem:=by simp
 obj:=λi h st b d=>by
  obtain⟨a1,m,⟨_,_,A⟩,⟨an,a4,_,d4⟩,⟨ap,C,_,d5⟩⟩:=st;simp only[pw,oi,vr]at d;rcases d with rfl|rfl|rfl|rfl|rfl
  ·exact⟨_,a1,λv e=>by cases e⟩
  ·exact⟨_,m,λv e=>by cases e⟩
  ·exact⟨_,A,λv e=>by cases e⟩
  ·exact⟨_,a4,λv e=>by rw[d4]at e;cases e⟩
  ·exact⟨_,C,λv e=>by rw[d5]at e;cases e⟩
 keep:=λi h h' st k=>by obtain⟨a1,m,⟨a,b,A⟩,a4,C⟩:=st;exact⟨k z (by simp) _ a1,k j (by simp) _ m,⟨a,b,k n (by simp) _ A⟩,a4.at λob e=>k q (by simp) ob e,C.at λob e=>k r (by simp) ob e⟩
 item:=by
  intro X R S T hc i B s σ H E I O st hg;subst R S T;obtain⟨xs,ys,x,y,L,M,U,hy⟩:=hg;obtain⟨F,V,p,hz⟩:=I.tuple L;obtain⟨al,Y,p2,as⟩:=I.list M;obtain⟨u,hu,ru⟩:=V.get U;obtain⟨Z,aa,ad⟩:=Y.get hy;obtain⟨a1,m,⟨a,b,A⟩,a4,C⟩:=st;refine Ea D a1 m A a4 C (show s.heap.IsTuple t F.toArray from p) p2.isList (x:=u) (y:=Z) (by simpa using hu) (by simpa using aa) λg b1 b2 b3 b4 b5 b6 off=>?_;refine⟨_,rfl,wpAny_letOwnedTupleGo_zip b1 λg' c1 G=>?_⟩;have lt:∀c∈[z,j,n,q,r],c≠s.heap.objs.size:=λc N e=>by
   have hs:∃ob,s.heap.get? c=some ob:=by
    simp only[pw,oi,vr]at N;rcases N with rfl|rfl|rfl|rfl|rfl
    ·exact⟨_,a1⟩
    ·exact⟨_,m⟩
    ·exact⟨_,A⟩
    ·obtain⟨ob,e,_⟩:=a4;exact⟨ob,e⟩
    ·obtain⟨ob,e,_⟩:=C;exact⟨ob,e⟩
   obtain⟨ob,h⟩:=hs;rw[e]at h;exact absurd (kl h) (ri _)
  have fresh:H s.heap.objs.size=none:=I.hok.fresh (f_ _);have I1:aL X B σ (aA H s.heap.objs.size (.tup [x,y])) {s with heap:=s.heap.push {cls:=.type "tuple",data:=.seq #[u,Z]},toks:=s.toks}:=I.laid (λb o e=>b_ _ e) (f_ _) ⟨by rw[lm];simp,[u,Z],.cons ru (.cons ad .nil),⟨_,g_ _ rfl,rfl,_,rfl⟩⟩
  have I2:=gG (h':=g') (t':=s.toks) (ch:=[z,j,n,q,r]) I1 (λb o d e=>?_) (λb d=>?_)
  ·refine⟨.ref s.heap.objs.size,_,I2,rfl,⟨_,x,y,fresh,rfl,rfl,λa0 a6 h1 h2=>⟨by rw[I.tuple_inj h1 L];exact U,by rw[I.list_inj h2 M];exact hy⟩⟩,⟨c1,G.extBut _ _ D.TIz (off _ _ D.TIz D.TITO D.TIi1 D.TIi2 m),⟨_,_,G.extBut _ _ D.TOz b2⟩,b3.extBut G.extBut D.i1z,b4.extBut G.extBut D.i2z⟩,λb d=>?_⟩;rw[ak (lt b d)];exact(O b d).1
  ·have f:b≠z/\b≠j/\b≠n/\b≠q/\b≠r:=by simpa using d
   by_cases eb:b=s.heap.objs.size
   ·subst eb;rw[g_ _ rfl]at e;cases e;exact G.extBut _ _ f.1 b5
   ·have e':s.heap.get? b=some o:=by
     rcases Qa e with⟨z2,_⟩|e2
     ·exact absurd z2 eb
     ·exact e2
    exact G.extBut _ _ f.1 (off b o f.1 f.2.2.1 f.2.2.2.1 f.2.2.2.2 e')
  ·obtain⟨f0,f1⟩:=O b d;exact⟨by rw[ak (lt b d)];exact f0,f1⟩
 done:=by
  intro X R S T hc i B s σ H E I O st hg;subst R S T;obtain⟨xs,hq,U⟩:=hg;obtain⟨F,V,p,hz⟩:=I.tuple hq;have hl:=V.length;obtain⟨a1,m,⟨a,b,A⟩,a4,C⟩:=st;refine zT (I.ok.hd hc) D a1 m A a4 (show s.heap.IsTuple t F.toArray from p) (by simp;lia) λg off=>⟨rfl,gG (t':=s.toks) (ch:=[z,j,n,q,r]) I (λb o d e=>?_) O⟩;have f:b≠z/\b≠j/\b≠n/\b≠q/\b≠r:=by simpa using d
  exact off b o f.1 f.2.2.1 f.2.2.2.1 f.2.2.2.2 e
 self:=λ_ _ _ _ _ st h=>Q1 st.1 h
end L2
namespace L2
open PySem PySem.Spec PyProof.Rows PySem.W
section
variable{X:Cx}{c:Expr}
def IB{K:R7}{a l:Addr}{h o:List V}{g:TG}{ds:Sf}{k:Nat}{tc:TT}{te:TE}{z:St}{A:Hp}{D:Addr}{F:Hp->Prop}(Pv:Nat->List V->Hp->Prop)(h0:Pv 0 [] (aA A D (.lst [])))(C:h.length=o.length)(E:∀i d f,i<=h.length->Pv i d f->aW K f a h/\aX K f l o)(G:∀i x y d f T,h[i]?=some x->o[i]?=some y->Pv i d f->f T=none->g (.ref T) (fX ds k z) (aA f T (.tup [x,y])) λj u=>tc j u λb r=>if b=true then te j r λy s=>s D=some (.lst d)/\d.length<sizeLine/\∃n,n<h.length-i/\n=h.length-(i+1)/\i+1<=h.length/\Pv (i+1) (d++[y]) (aA s D (.lst (d++[y])))else∃n,n<h.length-i/\n=h.length-(i+1)/\i+1<=h.length/\Pv (i+1) d r)(hd:∀d f,Pv h.length d f->F f):∃W:Nat->Nat->List V->Hp->Prop,(∃m,W 0 m [] (aA A D (.lst [])))/\∀i m d f,W i m d f->((LE K a l).stop i f/\F f)\/((LE K a l).go i f/\∀x v,(LE K a l).yld i f x v->g x (fX ds k z) v λj u=>tc j u λb r=>if b=true then te j r λy s=>s D=some (.lst d)/\d.length<sizeLine/\∃n,n<m/\W (i+1) n (d++[y]) (aA s D (.lst (d++[y])))else∃n,n<m/\W (i+1) n d r):=by
 refine⟨λi m d f=>m=h.length-i/\i<=h.length/\Pv i d f,⟨_,rfl,n0 _,h0⟩,?_⟩;rintro i m d f⟨rfl,hi,p⟩;obtain⟨q,B⟩:=E i d f hi p
 by_cases w:i<h.length
 ·have t:i<o.length:=by lia
  refine .inr ⟨⟨h,o,h[i],o[i],q,B,by simp[w],by simp[t]⟩,λx v y=>?_⟩;obtain⟨T,H,I,J,e,L,y⟩:=y;subst e L;obtain⟨M,N⟩:=y h o q B;exact G i H I d _ T M N p J
 ·have e:i=h.length:=by lia
  subst e;exact .inl ⟨⟨h,q,f_ _⟩,hd d f p⟩
end
end L2
namespace L2
open PySem PySem.Spec PyProof.Rows PySem.W
def PK{K:R7}{w:World}{pm:Params}{a:Addr}(h:w.params=pm)(k:Lg K pm a):Lg K w.params a:=h▸k
def gl(c:Nat):List (List Nat)->List Nat|[]=>[]|[x]=>x|x::y::r=>x++c::gl c (y::r)
end L2
namespace L2
open PySem PySem.Spec PyProof.Rows
section
variable{prog:Sb}{w:World}{A:Around}{E:R8}{s:Shared}
end
section
variable{P:Sb}{w:World}{A:Around}{R:Result->Shared->Prop}{h0:Heap}{l c d:Addr}{a:Se}{e:List kz}
end
section
variable{P:Sb}{w:World}{A:Around}{E:R8}{s:Shared}{l:Addr}{a:Se}{c:List kz}{Q:R8}
end
section
variable{X:Cx}
end
end L2
namespace L2
open PySem PySem.Spec PyProof.Rows PySem.W
abbrev dE(P:Sb)(w:World)(d:Addr)(a:List (cg×V))(c:Nat):HO:=.ext λh=>((d==sysModules)=false/\a.length<=sizeLine)/\∃b,KV a b/\h.DictAt (aK P w) d b c
theorem zb:∀{a:List (cg×V)}{d:List (cg×Value)},KV a d->∀(i:Nat)(k:cg)(v:V),a[i]?=some (k,v)->∃u,d[i]?=some (k,u)/\aU v u|_,_,.nil,i,k,v,h=>by simp at h|_,_,.cons (b:=q) ⟨c,e⟩ t,i,k,v,h=>by cases i with|zero=>simp at h;subst h;obtain⟨f,u⟩:=q;have c:k=f:=c;subst c;exact⟨u,rfl,e⟩|succ i=>obtain⟨u,h1,h2⟩:=zb t i k v (by simpa using h);exact⟨u,by simpa using h1,h2⟩
def DF(h:(aK P w).is k u=true):aU (kV k) u:=by
 rcases lJ.flat (P:=P) (w:=w) (h:=default) (k:=k) (v:=u) h with⟨i,t,rfl,rfl⟩|⟨z,t,rfl,rfl⟩
 ·exact⟨t,rfl⟩
 ·exact⟨t,rfl⟩
section
variable{X:Cx}{g:R9}{j:St}{H:Hp}{s:Shared}{d:Addr}{f:List (cg×V)}{i:Nat}
def aL.walk(I:aL X g j H s)(h:H d=some (.dK f)):∃i l,KV f l/\s.heap.DictAt (aK X.prog X.w) d l i/\(d==sysModules)=false/\aL X g j (aA H d (dE X.prog X.w d f i)) s:=by obtain⟨t,p,l,q,m⟩:=I.hok d _ h;obtain⟨i,n⟩:=m.dictAt;obtain⟨o,u,r,_⟩:=id n;refine⟨i,l,q,n,p,?_⟩;have J:=I.write (h':=s.heap) (t':=s.toks) (x:=d) (e:=d) (o:=dE X.prog X.w d f i) (by rw[h];exact True.intro) (.inl rfl) (λ_ _ _ e=>e) ⟨o,r⟩ ⟨⟨⟨p,t⟩,l,q,n⟩,⟨o,r⟩,λ_ _⟨a,l,b,c⟩k=>⟨a,l,b,c.at' k⟩⟩;exact J
def aL.thaw(I:aL X g j H s)(h:H d=some (dE X.prog X.w d f i)):aL X g j (aA H d (.dK f)) s:=by obtain⟨⟨⟨a,b⟩,c,k,l⟩,⟨o,m⟩,_⟩:=I.hok d _ h;have J:=I.write (h':=s.heap) (t':=s.toks) (x:=d) (e:=d) (o:=.dK f) (by rw[h];exact True.intro) (.inl rfl) (λ_ _ _ e=>e) ⟨o,m⟩ ⟨b,a,c,k,l.dictOf⟩;exact J
end
def Pk(P:Sb)(w:World)(d:Addr)(a:List (cg×V))(c:Nat)(f:cg×V->V):It:=⟨λi H=>H d=some (dE P w d a c)/\i<a.length,λi H x b=>b=H/\a[i]?.map f=some x,λi H=>H d=some (dE P w d a c)/\a.length<=i⟩
def Ef{P:Sb}{w:World}{K:R7}{Q:Expr}(d g:Addr)(a:List (cg×V))(n:Nat):vK P w K Q (Pk P w d a n λp=>kV p.1) [g] g (λi h=>h.IsKeyIter g d i a.length n)where
 mem:=by simp
 obj:=λi h st b l=>by
  have e:b=g:=by simpa using l
  subst e;obtain⟨o,e,c,x⟩:=st;exact⟨o,e,λv z=>by rw[x]at z;cases z⟩
 keep:=λi h h'⟨o,e,r⟩k=>⟨o,k g (by simp) o e,r⟩
 item:=by intro X y A B hc i j s M H E I q st hg;subst y A B;obtain⟨hd,hi⟩:=hg;obtain⟨⟨_,C,t,D⟩,_⟩:=I.hok d _ hd;have f:a.length=C.length:=Paired.length t;obtain⟨F,f1,f2,f3,G,J⟩:=q g (by simp);have N:a[i]?=some a[i]:=h_ hi;obtain⟨u,O,ru⟩:=zb t i a[i].1 a[i].2 N;have st:s.heap.IsKeyIter g d i a.length n:=st;rw[f]at st;refine wpAny_pyNext_dict_item st D O λL h' R m S=>?_;have I1:aL X j M H {s with heap:=h'}:=I.turned (t':=s.toks) (λb o l e=>(S.2 b l).trans e) F f1 f3 G J;obtain⟨o,e,c,x⟩:=id m;rw[<-f]at m;exact⟨L,rfl,xJ (s:={s with heap:=h'}) e c x (by decide) ⟨kV a[i].1,H,I1,DF R,⟨rfl,by rw[N];rfl⟩,m,λb l=>(q b l).1⟩⟩
 done:=by intro X y A B hc i j s M H E I q st hg;subst y A B;obtain⟨hd,hi⟩:=hg;obtain⟨⟨_,C,t,D⟩,_⟩:=I.hok d _ hd;have f:a.length=C.length:=Paired.length t;obtain⟨F,f1,f2,f3,G,J⟩:=q g (by simp);have st:s.heap.IsKeyIter g d i a.length n:=st;rw[f]at st;exact wpAny_pyNext_dict_end (I.ok.hd hc) st D (pa (by lia)) λh' U=>⟨rfl,I.turned (t':=s.toks) (λb o l e=>U b o l e) F f1 f3 G J⟩
 self:=λ_ _ _ _ _ st h=>wpAny_pyIter_keyiter st h
def Ed{P:Sb}{w:World}{K:R7}{N:Expr}(d g:Addr)(a:List (cg×V))(n:Nat):vK P w K N (Pk P w d a n λp=>p.2) [g] g (λi h=>h.IsValIter g d i a.length n)where
 mem:=by simp
 obj:=λi h st b l=>by
  have e:b=g:=by simpa using l
  subst e;obtain⟨o,e,c,x⟩:=st;exact⟨o,e,λv z=>by rw[x]at z;cases z⟩
 keep:=λi h h'⟨o,e,r⟩k=>⟨o,k g (by simp) o e,r⟩
 item:=by intro X y A B hc i j s L H E I q st hg;subst y A B;obtain⟨hd,hi⟩:=hg;obtain⟨⟨_,C,t,D⟩,_⟩:=I.hok d _ hd;have f:a.length=C.length:=Paired.length t;obtain⟨F,f1,f2,f3,G,J⟩:=q g (by simp);have M:a[i]?=some a[i]:=h_ hi;obtain⟨u,O,ru⟩:=zb t i a[i].1 a[i].2 M;have st:s.heap.IsValIter g d i a.length n:=st;rw[f]at st;refine wpAny_pyNext_values_item st D O λh' m Q=>?_;have I1:aL X j L H {s with heap:=h'}:=I.turned (t':=s.toks) (λb o l e=>(Q.2 b l).trans e) F f1 f3 G J;obtain⟨o,e,c,x⟩:=id m;rw[<-f]at m;exact⟨u,rfl,xJ (s:={s with heap:=h'}) e c x (by decide) ⟨a[i].2,H,I1,ru,⟨rfl,by rw[M];rfl⟩,m,λb l=>(q b l).1⟩⟩
 done:=by intro X y A B hc i j s L H E I q st hg;subst y A B;obtain⟨hd,hi⟩:=hg;obtain⟨⟨_,C,t,D⟩,_⟩:=I.hok d _ hd;have f:a.length=C.length:=Paired.length t;obtain⟨F,f1,f2,f3,G,J⟩:=q g (by simp);have st:s.heap.IsValIter g d i a.length n:=st;rw[f]at st;exact wpAny_pyNext_values_end (I.ok.hd hc) st D (pa (by lia)) λh' S=>⟨rfl,I.turned (t':=s.toks) (λb o l e=>S b o l e) F f1 f3 G J⟩
 self:=λ_ _ _ _ _ st h=>wpAny_pyIter_valiter st h
section
variable{X:Cx}{P:Sb}{w:World}{j l o e:Expr}{a g te:TE}{c i:Pos}
def OP(P:Sb)(w:World)(a:TE):TI:=λk H R=>a k H λx f=>∃d b,x=.ref d/\f d=some (.dK b)/\∀h,R (Pk P w d b h λp=>kV p.1) (aA f d (dE P w d b h))
def Ka(t:PE X l a)(u:X.prog=P:=by rfl)(y:X.w=w:=by rfl):PI X j l (OP P w a):=by
 subst u y;intro f s z H R I h;refine cq (t f s z H _ I h) λv n⟨x,G,I1,A,d,k,e,hd,q⟩=>?_;subst e;obtain rfl:v=Value.ref d:=A;obtain⟨r,B,C,D,E,p⟩:=I1.walk hd;have m:k.length=B.length:=Paired.length C;refine wpAny_pyIter_dict E D ?_;refine⟨n.heap.objs.size,[n.heap.objs.size],_,_,_,rfl,p.kept (t':=n.toks) λb o e=>b_ _ e,Ef d _ k r,⟨_,g_ _ rfl,rfl,by rw[m];rfl⟩,λb F=>?_,q r⟩;have e:b=n.heap.objs.size:=by simpa using F
 subst e;exact p.fpOk (f_ _) (p.hok.fresh (f_ _))
def OL(P:Sb)(w:World)(g:TE):TI:=λk H R=>g k H λx f=>∃d b,x=.ref d/\f d=some (.dK b)/\∀h,R (Pk P w d b h λp=>p.2) (aA f d (dE P w d b h))
def Py(P:Sb)(w:World)(t:TE):TE:=λh H Q=>t h H λv f=>∃d b k,f d=some (dE P w d b k)/\Q v (aA f d (.dK b))
def GT(h:PE X e te)(f:X.prog=P:=by rfl)(n:X.w=w:=by rfl):PE X e (Py P w te):=by subst f n;intro b s k H Q I m;refine cq (h b s k H _ I m) λu t⟨v,x,I1,r,d,p,y,hd,q⟩=>?_;exact⟨v,_,I1.thaw hd,r,q⟩
def Ob(P:Sb)(w:World)(t:TS):TS:=λD k H=>t {D with nx:=λf h=>∃d b m,h d=some (dE P w d b m)/\D.nx f (aA h d (.dK b))} k H
def GP{st:Stmt}{t:TS}(h:PS X st t)(n:X.prog=P:=by rfl)(p:X.w=w:=by rfl):PS X st (Ob P w t):=by subst n p;intro b s m H D I r;refine wpAny_mono (h b s m H _ I r) (λf y z=>?_) λ_ _ z=>z;cases f with|next=>obtain⟨k,A,v,d,x,B,hd,q⟩:=z;exact⟨k,_,v.thaw hd,q⟩|brk=>exact z|cont=>exact z|ret u=>exact z
end
end L2
namespace L2
open PySem PySem.Spec PyProof.Rows PySem.W
section
variable{X:Cx}{P:Sb}{w:World}{p l o e:Expr}{B j te ty:TE}{c f t:Pos}
def J8(D:PE X o j)(E:X.prog=P:=by rfl)(G:X.w=w:=by rfl)(g:attributeBase o "values" X.env (eval o X.env)=eval o X.env:=by rfl)(i:(c.endLine==f.line)=true:=by rfl):PI X p (.Call (.Attribute o "values" c) [] [] f) (OL P w j):=by
 subst E G;intro k s J H R I h;refine wpAny_Call_method0_late g i (cq (D k s J H _ I h) λv a⟨x,U,I1,K,d,m,e,hd,q⟩=>?_);subst e;obtain rfl:v=Value.ref d:=K;obtain⟨A,C,L,n,M,N⟩:=I1.walk hd;have r:m.length=C.length:=Paired.length L;obtain⟨ob,V,u,O,_⟩:=id n;refine⟨"dict","dict.values",PySem.F.plainAttrs_dict,PySem.F.slot_dict_values,PySem.F.type_dict_values,n.dictOf.typeIs,?_,sm rfl (PySem.evalArgs_none (F_ PySem.F.slot_dict_values n.dictOf.typeIs PySem.F.entry_dict_values (PySem.F.args_dict_values_1 _) (meets_dict_values (aK X.prog X.w) d M) ⟨⟨C,n.dictOf⟩,?_⟩))⟩
 ·intro b z;cases z;exact⟨ob,u,O.2.1⟩
 ·have Q:(a.heap.push {cls:=.type "dict_values",data:=.fields #[.ref d]}).IsValuesView a.heap.objs.size d:=⟨_,g_ _ rfl,rfl,rfl⟩;show wpAny _ _ (pyIter (.ref a.heap.objs.size)) _ _ _;have y:=N.kept (h':=a.heap.push {cls:=.type "dict_values",data:=.fields #[.ref d]}) (t':=a.toks) λb o e=>b_ _ e;refine wpAny_pyIter_values (s:={a with heap:=a.heap.push {cls:=.type "dict_values",data:=.fields #[.ref d]}}) Q (n.push _) ?_;refine⟨_,[(a.heap.push {cls:=.type "dict_values",data:=.fields #[.ref d]}).objs.size],_,_,_,rfl,y.kept (t':=a.toks) λb o e=>b_ _ e,Ed d _ m A,⟨_,g_ _ rfl,rfl,by rw[r];rfl⟩,λb T=>?_,q A⟩;have e:b=(a.heap.push {cls:=.type "dict_values",data:=.fields #[.ref d]}).objs.size:=by simpa using T
  subst e;exact y.fpOk (f_ _) (y.hok.fresh (f_ _))
def Jm(K:R7)(ty j:TE):TE:=λd H Q=>ty d H λy g=>j d g λx b=>(∃a o,x=.ref a/\dG b a y o/\Q (.bl (!o.isSome)) b)\/Pf K true y x b Q
def EF(K:R7)(z:X.K=K)(C:X.A.units+1<cLine)(hi:PE X i ty)(D:PE X o j):PC X .NotIn i o (Jm K ty j):=by
 subst z;intro b s d H Q I h;refine cq (hi b s d H _ I h) λiv E⟨y,F,I1,k,G⟩=>?_;refine cq (D b E d F _ I1 G) λm J⟨x,n,u,v,L⟩=>?_;rcases L with⟨a,r,e,g,q⟩|q
 ·subst e;obtain rfl:m=Value.ref a:=v;exact DR C u g k λN M=>⟨.bl (!r.isSome),n,M,rfl,q⟩
 ·exact yI b J d n y x iv m Q u k v q
def N6(K:R7)(a:Addr)(ty:TE):TE:=λd H Q=>ty d H λy b=>∃x r,y=.str x/\PySem.W.nsIn K a x=some r/\((r=none/\Q .non b)\/∃u v,r=some u/\aU v u/\Q v b)
def Kc(K:R7)(L:X.K=K)(hd:Lg K X.w.params a)(hg:Gl X x)(hm:X.mg x=some (.ref a))(M:PE X e ty)(m:M1 X (.Name x d) "get" c e f)(A:(x==("__debug__":Str))=false:=by decide):PE X (.Call (.Attribute (.Name x d) "get" c) [e] [] f) (N6 K a ty):=by
 subst L;intro g s E H Q I h;obtain⟨lo,es,n,k,G⟩:=hd;have hn:PE X (.Name x d) (tC (.ref a)):=Dz hg hm rfl A;refine Qn m.base m.few m.line PySem.F.plainAttrs_dict PySem.F.slot_dict_get PySem.F.type_dict_get (cq (hn g s E H (λv N=>v=.ref a/\N=H) I ⟨rfl,rfl⟩) λu O⟨z,R,I1,S,T,U⟩=>?_);subst T U;obtain rfl:u=Value.ref a:=S;have C:=PySem.W.mapOf_K (prog:=X.prog) (w:=X.w) I1.kIn k G;refine⟨C.typeIs,λb z=>by cases z;exact⟨_,I1.kIn _ _ k,rfl⟩,?_⟩;rw[m.trees];refine sm rfl (w_ (rk (cq (M g O E R _ I1 h) λiv s2⟨y,J,D,V,Y,r,Z,hu,q2⟩=>t_ ?_)));subst Z;obtain⟨tk,rfl⟩:=V;have i:=PySem.W.mapOf_K (prog:=X.prog) (w:=X.w) D.kIn k G;refine F_ PySem.F.slot_dict_get i.typeIs PySem.F.entry_dict_get (PySem.F.args_dict_get_2 _ _) (meets_dict_get (strKind X.prog X.w) a (PySem.strKind_is X.prog X.w Y tk) lo) ⟨_,i,?_⟩;rw[PySem.W.find_K k hu];rcases q2 with⟨rfl,q⟩|⟨u',v',rfl,rv,q⟩
 ·exact⟨.non,J,D.tok _,rfl,q⟩
 ·exact⟨v',J,D.tok _,rv,q⟩
end
end L2
namespace L2
open PySem PySem.W PyProof.Rows
section
variable{M:Model}{A:Around}{E:R8}
end
end L2
namespace L2
open PySem PySem.Spec PyProof.Rows PySem.W
section
variable{P:Sb}{w:World}{A:Around}{E:R8}{s:Shared}
def D6{z h d j n t l:Addr}{L M:Nat}{Z ys:Se}{x y a b:Value}{Q:R8}(D:ZipApart z h d j n t l)(B:IsZip s.heap z h d .none)(p1:IsPair s.heap h (.ref j) (.ref n))(p2:IsPair s.heap d a b)(i1:s.heap.IsTupleIter j t L)(i2:s.heap.IsTupleIter n l M)(tt:s.heap.IsTuple t Z)(ll:s.heap.IsTuple l ys)(hx:Z[L]?=some x)(hy:ys[M]?=some y)(q:∀g,IsZip g z h d (rawInt s.heap.objs.size)->IsPair g d x y->g.IsTupleIter j t (L+1)->g.IsTupleIter n l (M+1)->IsPair g s.heap.objs.size x y->g.objs.size=s.heap.objs.size+1->BG z d j n s.heap g->Q (.ref s.heap.objs.size) {s with heap:=g}):wpAny (model P w) A (Builtin.«zip.__next__» ⟨[.ref z],[]⟩) (λfin s'=>∃v,fin=.done (.ret v)/\Q v s') E s:=by
 refine(show wpAny _ _ (field (.ref z) 2>>=_) _ _ _ from a_ (rx B rfl (x:=.bool false) rfl ?_));refine(show wpAny _ _ (field (.ref z) 3>>=_) _ _ _ from a_ (rx B rfl (x:=.ref h) rfl (a_ (rl p1 rfl ?_))));refine(show wpAny _ _ (Builtin.SmallTypes.ownedTupleIsFree (.ref z)>>=_) _ _ _ from a_ ?_);unfold Builtin.SmallTypes.ownedTupleIsFree;refine a_ (rx B rfl (x:=.none) rfl (e_ ?_));simp only[Rw];refine a_ (wh (a_ (rx B rfl (x:=.ref d) rfl (a_ (qq B (by simp) λg1 O k=>?_)))))
 replace O:IsZip g1 z h d .ellipsis:=O
 refine a_ ?_;simp only[RS,R3,QF,List.forIn_nil];refine a_ (a_ (QX (show wpAny _ _ (Builtin.SmallTypes.nextOf (.ref j)>>=_) _ _ _ from a_ (oS (i1.extBut k.extBut D.i1z) (tt.extBut k.extBut D.l1z) hx λg2 R r=>e_ ?_))));have C:IsPair g2 d a b:=r.extBut _ _ D.TOi1 (k.extBut _ _ D.TOz p2);refine a_ (rl C rfl (a_ (QA C λg3 m u=>?_)))
 replace m:IsPair g3 d x b:=m
 refine a_ (Rq (e_ (a_ (a_ (QX ?_)))));refine(show wpAny _ _ (Builtin.SmallTypes.nextOf (.ref n)>>=_) _ _ _ from a_ (oS (((i2.extBut k.extBut D.i2z).extBut r.extBut D.i12.symm).extBut u.extBut D.TOi2.symm) (((ll.extBut k.extBut D.l2z).extBut r.extBut D.l2i1).extBut u.extBut D.l2TO) hy λg4 S F=>e_ ?_))
 have G:IsPair g4 d x b:=F.extBut _ _ D.TOi2 m;refine a_ (rl G rfl (a_ (QA G λf i H=>?_)))
 replace i:IsPair f d x y:=i
 refine a_ (Rq (e_ (e_ (a_ (rl i rfl (a_ (wpAny_newTuple ?_)))))));have sz:f.objs.size=s.heap.objs.size:=by rw[H.1,F.1,u.1,r.1,k.1]
 have z5:IsZip f z h d .ellipsis:=H.extBut _ _ D.TOz.symm (F.extBut _ _ D.i2z.symm (u.extBut _ _ D.TOz.symm (r.extBut _ _ D.i1z.symm O)));have k5:BG z d j n s.heap f:=λc o p K T U e=>H.extBut _ _ K (F.extBut _ _ U (u.extBut _ _ K (r.extBut _ _ T (k.extBut _ _ p e))));have V:f.IsTupleIter j t (L+1):=((R.extBut u.extBut D.TOi1.symm).extBut F.extBut D.i12).extBut H.extBut D.TOi1.symm;have W:f.IsTupleIter n l (M+1):=S.extBut H.extBut D.TOi2.symm;have zl:z<f.objs.size:=kl z5;refine(show wpAny _ _ (Builtin.SmallTypes.ownedTupleHandOut (.ref z) (.ref f.objs.size)>>=_) _ _ _ from a_ ?_);unfold Builtin.SmallTypes.ownedTupleHandOut;have z6:IsZip (f.push {cls:=.type "tuple",data:=.seq #[x,y]}) z h d .ellipsis:=b_ _ z5;refine a_ (qq z6 (by simp) λg7 X Y=>?_)
 replace X:IsZip g7 z h d (rawInt f.objs.size):=X
 refine qq X (by simp) λI N s8=>?_
 replace N:IsZip I z h d (rawInt f.objs.size):=N
 have up:∀c ob,c≠z->f.get? c=some ob->I.get? c=some ob:=λc ob p e=>s8.extBut _ _ p (Y.extBut _ _ p (b_ _ e));have pn:IsPair I f.objs.size x y:=s8.extBut _ _ (ov zl) (Y.extBut _ _ (ov zl) (g_ _ rfl));have J:I.objs.size=f.objs.size+1:=by rw[s8.1,Y.1,op]
 rw[sz]at N pn J;refine e_ ⟨_,rfl,(show Q (.ref f.objs.size) _ from ?_)⟩;rw[sz];exact q I N (up _ _ D.TOz i) (V.at λob e=>up _ ob D.i1z e) (W.at λob e=>up _ ob D.i2z e) pn J λc ob p K T U e=>up c ob p (k5 c ob p K T U e)
def D7(D:ZipApart z f c d e t l)(h:IsZip s.heap z f c .none)(p1:IsPair s.heap f (.ref d) (.ref e))(p2:IsPair s.heap c a b)(n:s.heap.IsTupleIter d t i)(o:s.heap.IsTupleIter e l j)(p:s.heap.IsTuple t r)(u:s.heap.IsTuple l v)(B:r[i]?=some x)(C:v[j]?=some y)(q:∀g,IsZip g z f c (rawInt s.heap.objs.size)->IsPair g c x y->g.IsTupleIter d t (i+1)->g.IsTupleIter e l (j+1)->IsPair g s.heap.objs.size x y->g.objs.size=s.heap.objs.size+1->BG z c d e s.heap g->Q (some (.ref s.heap.objs.size)) {s with heap:=g}):wpAny (model P w) A (pyNext (.ref z)) Q E s:=by have ty:s.TypeIs (.ref z) "zip":=⟨_,h,rfl⟩;unfold pyNext;refine a_ (Qy (qx (name:=Str.ofString "__next__") ty Qj (qr Qj ty RV (D6 D h p1 p2 n o p u B C λg a1 m G a4 H I J=>?_) (RN _))));exact e_ (q g a1 m G a4 H I J)
abbrev O9(h:Heap)(t:Addr):Heap:=h.push {cls:=.type "tuple_iterator",data:=.fields #[.ref t,.int 0 0]}
abbrev O8(h:Heap)(t l:Addr):Heap:=(O9 h t).push {cls:=.type "tuple_iterator",data:=.fields #[.ref l,.int 0 0]}
abbrev O7(h:Heap)(t l:Addr):Heap:=(O8 h t l).push {cls:=.type "tuple",data:=.seq #[.ref h.objs.size,.ref (O9 h t).objs.size]}
abbrev O6(h:Heap)(t l:Addr):Heap:=(O7 h t l).push {cls:=.type "tuple",data:=.seq #[.none,.none]}
abbrev Nu(h:Heap)(t l:Addr):Heap:=(O6 h t l).push {cls:=.type "zip",data:=.fields #[.none,.bool false,.bool false,.ref (O8 h t l).objs.size,.ref (O7 h t l).objs.size]}
def Ct(t l:Addr)(a c:Se):Meets (Builtin.«zip.__new__» ⟨[.type "zip",.ref t,.ref l],[]⟩) (λ_ R s=>s.heap.IsTuple t a/\s.heap.IsTuple l c/\R (.ok (.ret (.ref (O6 s.heap t l).objs.size))) {s with heap:=Nu s.heap t l}):=.of_wp λprog w A R s h=>by
  obtain⟨b,g,d,tk,os⟩:=s;obtain⟨h1,h2,h⟩:=h;have e:=sub_zip;have f:Heap.IsTuple (Shared.heap ⟨b,g,d,tk,os⟩) t a:=h1;have i:Heap.IsTuple (Shared.heap ⟨b.push {cls:=.type "tuple_iterator",data:=.fields #[.ref t,.int 0 0]},g,d,tk,os⟩) l c:=Heap.IsTuple.push h2 _
  wp_walk using z4 f,z4 i
  exact⟨_,rfl,h⟩
def Fs(h1:s.heap.IsTuple t n)(h2:s.heap.IsTuple l p)(q:∀g,IsZip g (s.heap.objs.size+4) (s.heap.objs.size+2) (s.heap.objs.size+3) .none->IsPair g (s.heap.objs.size+2) (.ref s.heap.objs.size) (.ref (s.heap.objs.size+1))->IsPair g (s.heap.objs.size+3) .none .none->g.IsTupleIter s.heap.objs.size t 0->g.IsTupleIter (s.heap.objs.size+1) l 0->(∀c o,s.heap.get? c=some o->g.get? c=some o)->Q (.ref (s.heap.objs.size+4)) {s with heap:=g}):wpAny (model P w) A (call (.type "zip") [.ref t,.ref l]) Q E s:=by
 refine callType_new F.called_zip (by decide) (F.typeCall_zip_2 _ _) (F.newCall_zip_2 _ _) (λob=>F.args_object_init_3 ob _ _) F.entry_zip_new (Ct t l n p) ⟨h1,h2,?_⟩;have a:(O9 s.heap t).objs.size=s.heap.objs.size+1:=op ..;have b:(O8 s.heap t l).objs.size=s.heap.objs.size+2:=by rw[op,a]
 have e:(O7 s.heap t l).objs.size=s.heap.objs.size+3:=by rw[op,b]
 have h:(O6 s.heap t l).objs.size=s.heap.objs.size+4:=by rw[op,e]
 have f:(Nu s.heap t l).get? (O6 s.heap t l).objs.size=some _:=g_ _ rfl;have i:(Nu s.heap t l).get? (O7 s.heap t l).objs.size=some _:=b_ _ (g_ _ rfl);have j:(Nu s.heap t l).get? (O8 s.heap t l).objs.size=some _:=b_ _ (b_ _ (g_ _ rfl));have k:(Nu s.heap t l).get? (O9 s.heap t).objs.size=some _:=b_ _ (b_ _ (b_ _ (g_ _ rfl)));have m:(Nu s.heap t l).get? s.heap.objs.size=some _:=b_ _ (b_ _ (b_ _ (b_ _ (g_ _ rfl))));show _/\_;rw[b,e,h]at f;rw[a,b]at j;rw[e]at i;rw[a]at k;rw[h];exact⟨⟨_,f,rfl⟩,q _ f j i ⟨_,m,rfl,rfl⟩ ⟨_,k,rfl,rfl⟩ λc ob d=>b_ _ (b_ _ (b_ _ (b_ _ (b_ _ d))))⟩
end
def LF(K:R7)(t l:Addr):It:=⟨λi H=>∃a b x y,aW K H t a/\aW K H l b/\a[i]?=some x/\b[i]?=some y,λi H v c=>∃T x y,H T=none/\v=.ref T/\c=aA H T (.tup [x,y])/\∀a b,aW K H t a->aW K H l b->a[i]?=some x/\b[i]?=some y,λi H=>∃a,aW K H t a/\a.length<=i⟩
def Ec{P:Sb}{w:World}{K:R7}{J:Sd}{x1:Nat}{R:Pos}{z j n q r t l:Addr}(D:ZipApart z j n q r t l):vK P w K (.Tuple J x1 R) (LF K t l) [z,j,n,q,r] z (λi h=>IsZip h z j n .none/\IsPair h j (.ref q) (.ref r)/\(∃a b,IsPair h n a b)/\h.IsTupleIter q t i/\h.IsTupleIter r l i)where
 mem:=by simp
 obj:=λi h st b d=>by
  obtain⟨a1,m,⟨_,_,A⟩,⟨al,a4,_,d4⟩,⟨an,C,_,d5⟩⟩:=st;simp only[pw,oi,vr]at d;rcases d with rfl|rfl|rfl|rfl|rfl
  ·exact⟨_,a1,λv e=>by cases e⟩
  ·exact⟨_,m,λv e=>by cases e⟩
  ·exact⟨_,A,λv e=>by cases e⟩
  ·exact⟨_,a4,λv e=>by rw[d4]at e;cases e⟩
  ·exact⟨_,C,λv e=>by rw[d5]at e;cases e⟩
 keep:=λi h h' st k=>by obtain⟨a1,m,⟨a,b,A⟩,a4,C⟩:=st;exact⟨k z (by simp) _ a1,k j (by simp) _ m,⟨a,b,k n (by simp) _ A⟩,a4.at λob e=>k q (by simp) ob e,C.at λob e=>k r (by simp) ob e⟩
 item:=by
  intro X S T U hc i B s σ H E I Q st hg;subst S T U;obtain⟨xs,ys,x,y,L,M,V,hy⟩:=hg;obtain⟨F,Y,p,hz⟩:=I.tuple L;obtain⟨N,Z,p2,ap⟩:=I.tuple M;obtain⟨u,hu,ru⟩:=Y.get V;obtain⟨u2,aa,ad⟩:=Z.get hy;obtain⟨a1,m,⟨a,b,A⟩,a4,C⟩:=st;refine D7 D a1 m A a4 C (show s.heap.IsTuple t F.toArray from p) (show s.heap.IsTuple l N.toArray from p2) (x:=u) (y:=u2) (by simpa using hu) (by simpa using aa) λg b1 b2 b3 b4 b5 b6 off=>?_;refine⟨_,rfl,wpAny_letOwnedTupleGo_zip b1 λg' c1 G=>?_⟩;have lt:∀c∈[z,j,n,q,r],c≠s.heap.objs.size:=λc O e=>by
   have hs:∃ob,s.heap.get? c=some ob:=by
    simp only[pw,oi,vr]at O;rcases O with rfl|rfl|rfl|rfl|rfl
    ·exact⟨_,a1⟩
    ·exact⟨_,m⟩
    ·exact⟨_,A⟩
    ·obtain⟨ob,e,_⟩:=a4;exact⟨ob,e⟩
    ·obtain⟨ob,e,_⟩:=C;exact⟨ob,e⟩
   obtain⟨ob,h⟩:=hs;rw[e]at h;exact absurd (kl h) (ri _)
  have fresh:H s.heap.objs.size=none:=I.hok.fresh (f_ _);have I1:aL X B σ (aA H s.heap.objs.size (.tup [x,y])) {s with heap:=s.heap.push {cls:=.type "tuple",data:=.seq #[u,u2]},toks:=s.toks}:=I.laid (λb o e=>b_ _ e) (f_ _) ⟨by rw[lm];simp,[u,u2],.cons ru (.cons ad .nil),⟨_,g_ _ rfl,rfl,_,rfl⟩⟩
  have I2:=gG (h':=g') (t':=s.toks) (ch:=[z,j,n,q,r]) I1 (λb o d e=>?_) (λb d=>?_)
  ·refine⟨.ref s.heap.objs.size,_,I2,rfl,⟨_,x,y,fresh,rfl,rfl,λas a0 h1 h2=>⟨by rw[I.tuple_inj h1 L];exact V,by rw[I.tuple_inj h2 M];exact hy⟩⟩,⟨c1,G.extBut _ _ D.TIz (off _ _ D.TIz D.TITO D.TIi1 D.TIi2 m),⟨_,_,G.extBut _ _ D.TOz b2⟩,b3.extBut G.extBut D.i1z,b4.extBut G.extBut D.i2z⟩,λb d=>?_⟩;rw[ak (lt b d)];exact(Q b d).1
  ·have f:b≠z/\b≠j/\b≠n/\b≠q/\b≠r:=by simpa using d
   by_cases eb:b=s.heap.objs.size
   ·subst eb;rw[g_ _ rfl]at e;cases e;exact G.extBut _ _ f.1 b5
   ·have e':s.heap.get? b=some o:=by
     rcases Qa e with⟨z2,_⟩|e2
     ·exact absurd z2 eb
     ·exact e2
    exact G.extBut _ _ f.1 (off b o f.1 f.2.2.1 f.2.2.2.1 f.2.2.2.2 e')
  ·obtain⟨f0,f1⟩:=Q b d;exact⟨by rw[ak (lt b d)];exact f0,f1⟩
 done:=by
  intro X S T U hc i B s σ H E I Q st hg;subst S T U;obtain⟨xs,hq,V⟩:=hg;obtain⟨F,Y,p,hz⟩:=I.tuple hq;have hl:=Y.length;obtain⟨a1,m,⟨a,b,A⟩,a4,C⟩:=st;refine zT (I.ok.hd hc) D a1 m A a4 (show s.heap.IsTuple t F.toArray from p) (by simp;lia) λg off=>⟨rfl,gG (t':=s.toks) (ch:=[z,j,n,q,r]) I (λb o d e=>?_) Q⟩;have f:b≠z/\b≠j/\b≠n/\b≠q/\b≠r:=by simpa using d
  exact off b o f.1 f.2.2.1 f.2.2.2.1 f.2.2.2.2 e
 self:=λ_ _ _ _ _ st h=>Q1 st.1 h
section
variable{X:Cx}{c:Expr}
def OK(K:R7)(d:TA):TI:=λe H R=>d e H λf a=>∃t l g b,f=[.ref t,.ref l]/\aW K a t g/\((aX K a l b/\R (LE K t l) a)\/(aW K a l b/\R (LF K t l) a))
def J7(K:R7)(S:X.K=K){n:Sd}{T:Nat}{o:Pos}{a b:Expr}{P:TA}{p r:Pos}(hg:Gl X "zip")(hm:X.mg "zip"=none)(Z:PA X [a,b] P)(hs:starEach [a,b] X.env=[(false,eval a X.env),(false,eval b X.env)]:=by rfl)(w:starEach [b] X.env=[(false,eval b X.env)]:=by rfl):PI X (.Tuple n T o) (.Call (.Name "zip" p) [a,b] [] r) (OK K P):=by
 subst S;intro i s U H R I h;refine to (lK I hg hm IK (z3 (cq (Z r i s U H _ I h) λus d⟨vs,z,I1,V,A⟩=>?_) (by rw[hs,w]) (by rw[w];rfl)));obtain⟨t,l,xs,ys,e,B,A⟩:=A;subst e;obtain⟨u,v,rfl,rt,Y⟩:=xm V;obtain rfl:u=Value.ref t:=rt;obtain rfl:v=Value.ref l:=Y;obtain⟨m,rv,pl,hz⟩:=I1.tuple B;obtain⟨o1,O,_⟩:=id pl;have fp:∀b∈[d.heap.objs.size+4,d.heap.objs.size+2,d.heap.objs.size+3,d.heap.objs.size,d.heap.objs.size+1],vO X i z b:=λb Q=>by
  have x:d.heap.objs.size<=b:=by
   simp only[pw,oi,vr]at Q;rcases Q with rfl|rfl|rfl|rfl|rfl
   ·exact Qu _ _
   ·exact Qu _ _
   ·exact Qu _ _
   ·exact f_ _
   ·exact Qu _ _
  exact I1.fpOk x (I1.hok.fresh x)
 rcases A with⟨k,q⟩|⟨k,q⟩
 ·obtain⟨j,C,f,E⟩:=I1.list k;obtain⟨o2,n2,F,_⟩:=id f;have D:=ktu_apart d.heap.objs.size t l (kl O) (kl F);refine Ft (show d.heap.IsTuple t m.toArray from pl) f.isList λg y G J L M N=>?_;exact Q1 y ⟨_,[d.heap.objs.size+4,d.heap.objs.size+2,d.heap.objs.size+3,d.heap.objs.size,d.heap.objs.size+1],_,_,z,rfl,I1.kept (t':=d.toks) N,FU D,⟨y,G,⟨_,_,J⟩,L,M⟩,fp,q⟩
 ·obtain⟨j,C,f,E⟩:=I1.tuple k;obtain⟨o2,F,_⟩:=id f;have D:=ktu_apart d.heap.objs.size t l (kl O) (kl F);refine Fs (show d.heap.IsTuple t m.toArray from pl) (show d.heap.IsTuple l j.toArray from f) λg y G J L M N=>?_;exact Q1 y ⟨_,[d.heap.objs.size+4,d.heap.objs.size+2,d.heap.objs.size+3,d.heap.objs.size,d.heap.objs.size+1],_,_,z,rfl,I1.kept (t':=d.toks) N,Ec D,⟨y,G,⟨_,_,J⟩,L,M⟩,fp,q⟩
def Fo{K:R7}{a l:Addr}{h o:List V}{g:TG}{ds:Sf}{k:Nat}{tc:TT}{te:TE}{z:St}{A:Hp}{D:Addr}{F:Hp->Prop}(Pv:Nat->List V->Hp->Prop)(h0:Pv 0 [] (aA A D (.lst [])))(C:h.length=o.length)(E:∀i d f,i<=h.length->Pv i d f->aW K f a h/\aW K f l o)(G:∀i x y d f T,h[i]?=some x->o[i]?=some y->Pv i d f->f T=none->g (.ref T) (fX ds k z) (aA f T (.tup [x,y])) λj u=>tc j u λb r=>if b=true then te j r λy s=>s D=some (.lst d)/\d.length<sizeLine/\∃n,n<h.length-i/\n=h.length-(i+1)/\i+1<=h.length/\Pv (i+1) (d++[y]) (aA s D (.lst (d++[y])))else∃n,n<h.length-i/\n=h.length-(i+1)/\i+1<=h.length/\Pv (i+1) d r)(hd:∀d f,Pv h.length d f->F f):∃W:Nat->Nat->List V->Hp->Prop,(∃m,W 0 m [] (aA A D (.lst [])))/\∀i m d f,W i m d f->((LF K a l).stop i f/\F f)\/((LF K a l).go i f/\∀x v,(LF K a l).yld i f x v->g x (fX ds k z) v λj u=>tc j u λb r=>if b=true then te j r λy s=>s D=some (.lst d)/\d.length<sizeLine/\∃n,n<m/\W (i+1) n (d++[y]) (aA s D (.lst (d++[y])))else∃n,n<m/\W (i+1) n d r):=by
 refine⟨λi m d f=>m=h.length-i/\i<=h.length/\Pv i d f,⟨_,rfl,n0 _,h0⟩,?_⟩;rintro i m d f⟨rfl,hi,p⟩;obtain⟨q,B⟩:=E i d f hi p
 by_cases w:i<h.length
 ·have t:i<o.length:=by lia
  refine .inr ⟨⟨h,o,h[i],o[i],q,B,by simp[w],by simp[t]⟩,λx v y=>?_⟩;obtain⟨T,H,I,J,e,L,y⟩:=y;subst e L;obtain⟨M,N⟩:=y h o q B;exact G i H I d _ T M N p J
 ·have e:i=h.length:=by lia
  subst e;exact .inl ⟨⟨h,q,f_ _⟩,hd d f p⟩
end
end L2
namespace L2
open PySem PySem.Spec PyProof.Rows PySem.W
def Io(hh:A.handled=none)(c t:Addr)(ne:t≠c)(a:Se):Draws P w A c [c,t] a.size (λi v=>a[i]?=some v) (λi h=>h.IsTupleIter c t i/\h.IsTuple t a)where
 live:=λ_ _ st=>let⟨o,e,_⟩:=st.1;⟨o,e⟩
 frame:=λ_ _ _ st k=>⟨st.1.at λo e=>k c (by simp) o e,st.2.at λo e=>k t (by simp) o e⟩
 item:=λi s Q E hi st q=>oS st.1 st.2 (v:=a[i]) (by simp[hi]) λg d b=>q _ g s.toks (by simp[hi]) ⟨d,st.2.extBut b.extBut ne⟩ b
 done:=λs Q E st q=>zX hh st.1 st.2 (by simp) q
def AW(t:Addr)(a:Se)(n:Nat)(f:Option Addr)(sl:Array (Option Value)):Meets (Builtin.«enumerate.__new__» ⟨[.type "enumerate",.ref t],[]⟩) (λ_ R s=>s.heap.get? t=some {cls:=.type "tuple",dict:=f,data:=.seq a n,slots:=sl}/\R (.ok (.ret (.ref (Jh s.heap t).objs.size))) {s with heap:=(Jh s.heap t).push {cls:=.type "enumerate",data:=.fields #[.none,.bool false,.ref s.heap.objs.size,rawInt 0,.none,.none]}}):=.of_wp λprog w A R s h=>by
  obtain⟨i,g,d,tk,os⟩:=s;obtain⟨b,h⟩:=h;have f1:=sub_enumerate;have e:Heap.IsTuple (Shared.heap ⟨i,g,d,tk,os⟩) t a:=⟨_,b,rfl,n,rfl⟩
  wp_walk using Q0 b
  refine wpAny_stack_any λst=>e_ ?_
  split
  ·rename_i c _ _ _ _ _;cases(c==Value.type "enumerate")<;>(wp_walk using Q0 b,z4 e)<;>exact⟨_,rfl,h⟩
  ·wp_walk using Q0 b,z4 e
   exact⟨_,rfl,h⟩
def Dk(i:s.heap.IsTuple t a)(q:∀g,IsEnum g (s.heap.objs.size+1) s.heap.objs.size 0 .none->g.IsTupleIter s.heap.objs.size t 0->(∀b o,s.heap.get? b=some o->g.get? b=some o)->Q (.ref (s.heap.objs.size+1)) {s with heap:=g}):wpAny (model P w) A (call (.type "enumerate") [.ref t]) Q E s:=by
 obtain⟨⟨c,j,l,sl⟩,k,d,n,e⟩:=i;simp only at d e;subst d e;refine callType_new F.called_enumerate (by decide) (F.typeCall_enumerate_1 _) (F.newCall_enumerate_1 _) (λob=>F.args_object_init_2 ob _) F.entry_enumerate_new (AW t a n j sl) ⟨k,?_⟩;have f:(Jh s.heap t).objs.size=s.heap.objs.size+1:=op ..;show _/\_;rw[f];have h:IsEnum ((Jh s.heap t).push {cls:=.type "enumerate",data:=.fields #[.none,.bool false,.ref s.heap.objs.size,rawInt 0,.none,.none]}) (s.heap.objs.size+1) s.heap.objs.size 0 .none:=by have z:=g_ (Jh s.heap t) (o:={cls:=.type "enumerate",data:=.fields #[.none,.bool false,.ref s.heap.objs.size,rawInt 0,.none,.none]}) rfl;rw[f]at z;exact z
 exact⟨⟨_,h,rfl⟩,q _ h ⟨_,b_ _ (g_ _ rfl),rfl,rfl⟩ λb o x=>b_ _ (b_ _ x)⟩
def Ite(K:R7)(t:Addr):It:=⟨λi H=>∃a x,aW K H t a/\a[i]?=some x,λi H v b=>∃T x,H T=none/\v=.ref T/\b=aA H T (.tup [.int i,x])/\∀a,aW K H t a->a[i]?=some x,λi H=>∃a,aW K H t a/\a.length=i⟩
def Eg{P:Sb}{w:World}{K:R7}{r:Sd}{Z:Nat}{F:Pos}{e a t:Addr}(n1:e≠a)(n2:t≠a)(n3:t≠e):vK P w K (.Tuple r Z F) (Ite K t) [e,a] e (λi h=>(∃d,IsEnum h e a i d)/\h.IsTupleIter a t i)where
 mem:=by simp
 obj:=λi h st b j=>by
  obtain⟨⟨_,a1⟩,ob,l,_,V⟩:=st;simp only[pw,oi,vr]at j;rcases j with rfl|rfl
  ·exact⟨_,a1,λv z=>by cases z⟩
  ·exact⟨_,l,λv z=>by rw[V]at z;cases z⟩
 keep:=λi h h' st k=>by obtain⟨⟨d,a1⟩,l⟩:=st;exact⟨⟨d,k e (by simp) _ a1⟩,l.at λob z=>k a (by simp) ob z⟩
 item:=by
  intro X G J L hc i m s R H E I B st hg;subst G J L;obtain⟨Y,x,C,S⟩:=hg;obtain⟨f,M,p,hz⟩:=I.tuple C;obtain⟨u,T,ru⟩:=M.get S;obtain⟨⟨d,a1⟩,l⟩:=st;have hi:i<f.toArray.size:=by rw[lh];exact(d_.mp T).1
  have n:X.A.in1.handled=none:=by simp[I.ok.hd hc]
  refine wpAny_pyNext_enum_itemD (Io n a t n2 f.toArray) a1 ⟨l,p⟩ hi n1 (by simp[n1,pv n3]) λv g tk D b1 b2 b3 b4 off=>?_;have ev:v=u:=by have D:f.toArray[i]?=some v:=D;rw[Rm,T]at D;exact(m_ D).symm
  subst ev;refine⟨_,rfl,wpAny_letOwnedTupleGo_enum b1 λg' c1 N=>?_⟩;have lt:∀c∈[e,a],c≠s.heap.objs.size:=λc y z=>by
   have hs:∃ob,s.heap.get? c=some ob:=by
    simp only[pw,oi,vr]at y;rcases y with rfl|rfl
    ·exact⟨_,a1⟩
    ·obtain⟨ob,z,_⟩:=l;exact⟨ob,z⟩
   obtain⟨ob,h⟩:=hs;rw[z]at h;exact absurd (kl h) (ri _)
  have fresh:H s.heap.objs.size=none:=I.hok.fresh (f_ _);have I1:aL X m R (aA H s.heap.objs.size (.tup [.int i,x])) {s with heap:=s.heap.push {cls:=.type "tuple",data:=.seq #[.int i tk,v]},toks:=tk+1}:=I.laid (λb o z=>b_ _ z) (f_ _) ⟨by rw[lm];simp,[.int i tk,v],.cons ⟨tk,rfl⟩ (.cons ru .nil),⟨_,g_ _ rfl,rfl,_,rfl⟩⟩
  have I2:=gG (h':=g') (t':=tk+1) (ch:=[e,a]) I1 (λb o j z=>?_) (λb j=>?_)
  ·refine⟨.ref s.heap.objs.size,_,I2,rfl,⟨_,x,fresh,rfl,rfl,λaa h1=>by rw[I.tuple_inj h1 C];exact S⟩,⟨⟨_,by simpa using c1⟩,b2.1.extBut N.extBut (pv n1)⟩,λb j=>?_⟩;rw[ak (lt b j)];exact(B b j).1
  ·have q:b≠e/\b≠a:=by simpa using j
   by_cases U:b=s.heap.objs.size
   ·subst U;rw[g_ _ rfl]at z;cases z;exact N.extBut _ _ q.1 b3
   ·have z':s.heap.get? b=some o:=by
     rcases Qa z with⟨O,_⟩|O
     ·exact absurd O U
     ·exact O
    exact N.extBut _ _ q.1 (off b o q.1 q.2 z')
  ·obtain⟨f0,f1⟩:=B b j;exact⟨by rw[ak (lt b j)];exact f0,f1⟩
 done:=by
  intro X G J L hc i m s R H E I B st hg;subst G J L;obtain⟨Y,C,rfl⟩:=hg;obtain⟨f,M,p,hz⟩:=I.tuple C;have hl:=M.length;obtain⟨⟨d,a1⟩,l⟩:=st;have n:X.A.in1.handled=none:=by simp[I.ok.hd hc]
  have Q:s.heap.IsTupleIter a t f.toArray.size:=by rw[lh,<-hl];exact l
  refine wpAny_pyNext_enum_endD (Io n a t n2 f.toArray) a1 ⟨Q,p⟩ λg off=>⟨rfl,gG (t':=s.toks) (ch:=[e,a]) I (λb o j z=>?_) B⟩;have q:b≠e/\b≠a:=by simpa using j
  exact off b o q.2 z
 self:=λ_ _ _ _ _ st h=>by obtain⟨⟨d,a1⟩,_⟩:=st;exact wpAny_pyIter_enum a1 h
section
variable{X:Cx}
def OQ(K:R7)(c:TA):TI:=λb H R=>c b H λd a=>∃t e,d=[.ref t]/\aW K a t e/\R (Ite K t) a
def Kb(K:R7)(r:X.K=K){c:Sd}{v:Nat}{d:Pos}{a:Expr}{n:TA}{p f:Pos}(hg:Gl X "enumerate")(hm:X.mg "enumerate"=none)(w:PA X [a] n)(x:starEach [a] X.env=[(false,eval a X.env)]:=by rfl):PI X (.Tuple c v d) (.Call (.Name "enumerate" p) [a] [] f) (OQ K n):=by
 subst r;intro i s y H R I h;refine to (lK I hg hm L2.vG (z3 (cq (w f i s y H _ I h) λG j⟨J,z,I1,A,B⟩=>?_) (by rw[x];rfl) (by rfl)));obtain⟨t,L,e,C,q⟩:=B;subst e;obtain⟨u,rfl,rt⟩:=jJ A;obtain rfl:u=Value.ref t:=rt;obtain⟨l,M,pl,N⟩:=I1.tuple C;obtain⟨O,D,_⟩:=id pl;have lt:=kl D;refine Dk (show j.heap.IsTuple t l.toArray from pl) λg m E F=>?_;refine wpAny_pyIter_enum m ⟨_,[j.heap.objs.size+1,j.heap.objs.size],_,_,z,rfl,I1.kept (t':=j.toks) F,Eg (t:=t) (ov (rV _)) (l_ lt) (l_ (r_ lt)),⟨⟨_,m⟩,E⟩,λb o=>?_,q⟩;have k:j.heap.objs.size<=b:=by
  simp only[pw,oi,vr]at o;rcases o with rfl|rfl
  ·exact Qu _ _
  ·exact f_ _
 exact I1.fpOk k (I1.hok.fresh k)
end
end L2
namespace L2
open PySem PySem.Spec PyProof.Rows PySem.W
section
variable{X:Cx}
def DA:lM (sN P w) X (λ_ _ _=>False):=λ_ _ _ _ _ _ _ h=>by obtain⟨_,_,_,_,_,_,_,_,_,_,_,_,_,q⟩:=h;exact q.elim
end
def Fp{K:R7}{a l:Addr}{xs ys:List V}{g:TG}{ds:Sf}{k:Nat}{tc:TT}{te:TE}{v:St}{h:Hp}{F:Addr->Hp->Prop}(Pv:Addr->Nat->List V->Hp->Prop)(o:aX K h l ys\/aW K h l ys)(h0:∀D,h D=none->Pv D 0 [] (aA h D (.lst [])))(r:xs.length=ys.length)(u:∀D i c d,Pv D i c d->aW K d a xs/\am h d)(B:∀D i x y c d T,h D=none->xs[i]?=some x->ys[i]?=some y->Pv D i c d->d T=none->g (.ref T) (fX ds k v) (aA d T (.tup [x,y])) λe s=>tc e s λb j=>if b=true then te e j λy n=>n D=some (.lst c)/\c.length<sizeLine/\∃f,f<xs.length-i/\f=xs.length-(i+1)/\i+1<=xs.length/\Pv D (i+1) (c++[y]) (aA n D (.lst (c++[y])))else∃f,f<xs.length-i/\f=xs.length-(i+1)/\i+1<=xs.length/\Pv D (i+1) c j)(hd:∀D c d,h D=none->Pv D xs.length c d->F D d):(aX K h l ys/\∀D,h D=none->∃W:Nat->Nat->List V->Hp->Prop,(∃m,W 0 m [] (aA h D (.lst [])))/\∀i m c d,W i m c d->((LE K a l).stop i d/\F D d)\/((LE K a l).go i d/\∀x t,(LE K a l).yld i d x t->g x (fX ds k v) t λe s=>tc e s λb j=>if b=true then te e j λy n=>n D=some (.lst c)/\c.length<sizeLine/\∃f,f<m/\W (i+1) f (c++[y]) (aA n D (.lst (c++[y])))else∃f,f<m/\W (i+1) f c j))\/(aW K h l ys/\∀D,h D=none->∃W:Nat->Nat->List V->Hp->Prop,(∃m,W 0 m [] (aA h D (.lst [])))/\∀i m c d,W i m c d->((LF K a l).stop i d/\F D d)\/((LF K a l).go i d/\∀x t,(LF K a l).yld i d x t->g x (fX ds k v) t λe s=>tc e s λb j=>if b=true then te e j λy n=>n D=some (.lst c)/\c.length<sizeLine/\∃f,f<m/\W (i+1) f (c++[y]) (aA n D (.lst (c++[y])))else∃f,f<m/\W (i+1) f c j)):=by
 rcases o with o|o
 ·exact .inl ⟨o,λD q=>IB (Pv D) (h0 D q) r (λi c d _ p=>⟨(u D i c d p).1,(u D i c d p).2.seq o⟩) (λi x y c d T w z p A=>B D i x y c d T q w z p A) λc d p=>hd D c d q p⟩
 ·exact .inr ⟨o,λD q=>Fo (Pv D) (h0 D q) r (λi c d _ p=>⟨(u D i c d p).1,am.tseq (u D i c d p).2 o⟩) (λi x y c d T w z p A=>B D i x y c d T q w z p A) λc d p=>hd D c d q p⟩
end L2
namespace L2
open PySem PySem.Spec PyProof.Rows PySem.W
def Iti(P:Sb)(w:World)(d:Addr)(a:List (cg×V))(c:Nat):It:=⟨λi H=>H d=some (dE P w d a c)/\i<a.length,λi H x b=>∃T k v,H T=none/\x=.ref T/\b=aA H T (.tup [kV k,v])/\a[i]?=some (k,v),λi H=>H d=some (dE P w d a c)/\a.length<=i⟩
def BX{P:Sb}{w:World}{K:R7}{l:Sd}{R:Nat}{t:Pos}(d f:Addr)(a:List (cg×V))(J:Nat):vK P w K (.Tuple l R t) (Iti P w d a J) [f] f (λi h=>∃ok n,IsItemIter h f d i a.length J ok n)where
 mem:=by simp
 obj:=λi h st b g=>by
  have e:b=f:=by simpa using g
  subst e;obtain⟨_,_,e⟩:=st;exact⟨_,e,λv z=>by cases z⟩
 keep:=λi h h'⟨ok,n,e⟩k=>⟨ok,n,k f (by simp) _ e⟩
 item:=by
  intro X x y A hc i j s L H E I p st hg;subst x y A;obtain⟨hd,hi⟩:=hg;obtain⟨⟨_,B,q,C⟩,_⟩:=I.hok d _ hd;have c:a.length=B.length:=Paired.length q;have M:a[i]?=some a[i]:=h_ hi;obtain⟨u,S,ru⟩:=zb q i a[i].1 a[i].2 M;obtain⟨ok,n,st⟩:=st;have lt:f<s.heap.objs.size:=kl st;rw[c]at st;refine wpAny_pyNext_items_item st C S λm h' T out U hz Y=>?_;refine⟨_,rfl,wpAny_letOwnedTupleGo_items out λZ N O=>?_⟩;rw[<-c]at N;have fresh:H s.heap.objs.size=none:=I.hok.fresh (f_ _);have I1:aL X j L (aA H s.heap.objs.size (.tup [kV a[i].1,a[i].2])) {s with heap:=s.heap.push {cls:=.type "tuple",data:=.seq #[m,u]}}:=I.laid (t':=s.toks) (λb o z=>b_ _ z) (f_ _) ⟨by rw[lm];simp,[m,u],.cons (DF T) (.cons ru .nil),⟨_,g_ _ rfl,rfl,_,rfl⟩⟩
  have I2:=gG (h':=Z) (t':=s.toks) (ch:=[f]) I1 (λb o g z=>?_) (λb g=>?_)
  ·refine⟨.ref s.heap.objs.size,_,I2,rfl,⟨_,a[i].1,a[i].2,fresh,rfl,rfl,M⟩,⟨_,_,N⟩,λb g=>?_⟩;have e:b=f:=by simpa using g
   subst e;rw[ak (l_ lt)];exact(p b g).1
  ·have D:b≠f:=by simpa using g
   by_cases r:b=s.heap.objs.size
   ·subst r;rw[g_ _ rfl]at z;cases z;exact O.extBut _ _ D U
   ·have z':s.heap.get? b=some o:=by
     rcases Qa z with⟨F,_⟩|F
     ·exact absurd F r
     ·exact F
    exact O.extBut _ _ D (Y b o D z')
  ·have e:b=f:=by simpa using g
   subst e;obtain⟨G,f1⟩:=p b g;exact⟨by rw[ak (l_ lt)];exact G,f1⟩
 done:=by intro X x y A hc i j s L H E I p st hg;subst x y A;obtain⟨hd,hi⟩:=hg;obtain⟨⟨_,B,q,C⟩,_⟩:=I.hok d _ hd;have c:a.length=B.length:=Paired.length q;obtain⟨G,f1,f2,f3,f4,f5⟩:=p f (by simp);obtain⟨ok,n,st⟩:=st;rw[c]at st;exact wpAny_pyNext_items_end (I.ok.hd hc) st C (pa (by omega)) λh' r=>⟨rfl,I.turned (t':=s.toks) (λb o g e=>r b o g e) G f1 f3 f4 f5⟩
 self:=λ_ _ _ _ _ st h=>by obtain⟨_,_,st⟩:=st;exact kcp_self st h
section
variable{X:Cx}{P:Sb}{w:World}{o:Expr}{i:TE}{c a g:Pos}{f:Sd}{j:Nat}
def MW(P:Sb)(w:World)(i:TE):TI:=λk H R=>i k H λx e=>∃d b,x=.ref d/\e d=some (.dK b)/\∀h,R (Iti P w d b h) (aA e d (dE P w d b h))
def At(C:PE X o i)(D:X.prog=P:=by rfl)(E:X.w=w:=by rfl)(l:attributeBase o "items" X.env (eval o X.env)=eval o X.env:=by rfl)(n:(c.endLine==a.line)=true:=by rfl):PI X (.Tuple f j g) (.Call (.Attribute o "items" c) [] [] a) (MW P w i):=by
 subst D E;intro m s G H R I h;refine wpAny_Call_method0_late l n (cq (C m s G H _ I h) λv k⟨x,T,I1,J,d,p,e,hd,q⟩=>?_);subst e;obtain rfl:v=Value.ref d:=J;obtain⟨A,B,K,r,L,M⟩:=I1.walk hd;have t:p.length=B.length:=Paired.length K;obtain⟨ob,U,u,N,_⟩:=id r;refine⟨"dict","dict.items",PySem.F.plainAttrs_dict,PySem.F.slot_dict_items,PySem.F.type_dict_items,r.dictOf.typeIs,?_,sm rfl (PySem.evalArgs_none (F_ PySem.F.slot_dict_items r.dictOf.typeIs PySem.F.entry_dict_items (PySem.F.args_dict_items_1 _) (meets_dict_items (aK X.prog X.w) d L) ⟨⟨B,r.dictOf⟩,?_⟩))⟩
 ·intro b z;cases z;exact⟨ob,u,N.2.1⟩
 ·have O:(k.heap.push {cls:=.type "dict_items",data:=.fields #[.ref d]}).IsItemsView k.heap.objs.size d:=⟨_,g_ _ rfl,rfl,rfl⟩;show wpAny _ _ (pyIter (.ref k.heap.objs.size)) _ _ _;have y:=M.kept (h':=k.heap.push {cls:=.type "dict_items",data:=.fields #[.ref d]}) (t':=k.toks) λb o e=>b_ _ e;refine wpAny_pyIter_items (s:={k with heap:=k.heap.push {cls:=.type "dict_items",data:=.fields #[.ref d]}}) O (r.push _) ?_;refine⟨_,[(k.heap.push {cls:=.type "dict_items",data:=.fields #[.ref d]}).objs.size],_,_,_,rfl,y.kept (t':=k.toks) λb o e=>b_ _ e,BX d _ p A,⟨_,_,by rw[t];exact g_ _ rfl⟩,λb S=>?_,q A⟩;have e:b=(k.heap.push {cls:=.type "dict_items",data:=.fields #[.ref d]}).objs.size:=by simpa using S
  subst e;exact y.fpOk (f_ _) (y.hok.fresh (f_ _))
end
end L2
namespace L2
open PySem PySem.Spec PyProof.Rows PySem.W
def qm(n:Nat){c:Type}(R:c->Prop):KasT c->Prop|.ret a=>R a|.ask i j k=>i<n/\j<n/\∀b,qm n R (k b)
theorem qm.bind{n:Nat}{c d:Type}{R:c->Prop}{S:d->Prop}{f:c->KasT d}(e:∀a,R a->qm n S (f a)):∀{t:KasT c},qm n R t->qm n S (t.bind f)|.ret a,h=>e a h|.ask i j k,h=>⟨h.1,h.2.1,λb=>qm.bind e (h.2.2 b)⟩
theorem qm.wp{n:Nat}{d:Type}{R:d->Prop}{c:Nat->Nat->(Bool->Shared->Prop)->Shared->Prop}{Q:d->Shared->Prop}{s:Shared}(hc:∀i j C,i<n->j<n->(∀b,C b s)->c i j C s)(e:∀a,R a->Q a s):∀{t:KasT d},qm n R t->t.kasWp c Q s|.ret a,h=>e a h|.ask i j k,h=>hc i j _ h.1 h.2.1 λb=>qm.wp hc e (h.2.2 b)
def PR(n:Nat)(p:Array Nat):Prop:=p.toList.Perm (List.range n)
def PR.lt(h:PR n p)(hn:0<n)(k:Nat):p.getD k 0<n:=by
 by_cases a:k<p.size
 ·have e:p.getD k 0=p[k]:=by simp[Array.getD,a]
  rw[e];exact q_.mp (h.mem_iff.mp (Array.mem_toList_iff.mpr (Array.getElem_mem a)))
 ·have e:p.getD k 0=0:=by simp[Array.getD,a]
  rw[e];exact hn
def PR.rev(h:PR n p)(i j:Nat):PR n (kas_rev p i j):=(mirror_perm p i j _).toList.trans h
section
variable{n:Nat}(hn:0<n)
include hn
theorem zc(h:PR n p):∀f m,qm n (λ_=>True) (kas_asc p f m)|0,_=>trivial|f+1,m=>⟨h.lt hn _,h.lt hn _,λb=>by cases b with|true=>exact trivial|false=>exact zc h f (m+1)⟩
theorem pJ:∀(f:Nat){p:Array Nat}(m q:Nat),PR n p->qm n (λr:Array Nat×Nat×Nat=>PR n r.1) (kas_desc f p m q)|0,_,_,_,h=>h|f+1,p,m,q,h=>⟨h.lt hn _,h.lt hn _,λb=>by
 cases b with|true=>
   show qm n _ (if q>0 then _ else _)
   split
   ·exact pJ f _ _ (h.rev _ _)
   ·exact pJ f _ _ h|false=>refine⟨h.lt hn _,h.lt hn _,λd=>?_⟩;cases d with|true=>exact h|false=>exact pJ f _ _ h⟩
def Bf{p:Array Nat}(m r:Nat)(h:PR n p):qm n (λr:Nat×Array Nat=>PR n r.2) (kas_tail3 m r p):=qm.bind (S:=λr:Nat×Array Nat=>PR n r.2) (f:=λa=>.ret (a,kas_rev p 0 m)) (λ_ _=>h.rev _ _) (zc hn (h.rev _ _) _ _)
def Bg{p:Array Nat}(m r:Nat)(h:PR n p):qm n (λr:Nat×Array Nat=>PR n r.2) (kas_descPart m r p):=qm.bind (λa b=>by
 show qm n _ (if a.2.2>0 then _ else _)
 split
 ·exact Bf hn _ _ (b.rev _ _)
 ·exact Bf hn _ _ b) (pJ hn _ _ _ h)
def E6{p:Array Nat}(r:Nat)(h:PR n p):qm n (λr:Nat×Array Nat=>PR n r.2) (kas_count r p):=qm.bind (λm _=>by
 show qm n _ (if(m==r)=true then _ else _)
 split
 ·exact h
 ·split
  ·refine⟨h.lt hn _,h.lt hn _,λc=>?_⟩;cases c with|true=>exact h|false=>exact Bg hn _ _ (h.rev _ _)
  ·exact Bg hn _ _ h) (zc hn h _ _)
theorem rj{p:Array Nat}(h:PR n p)(k:Nat):∀f l r,qm n (λ_=>True) (kas_place p k f l r)
 |0,_,_=>trivial|f+1,l,r=>by
  show qm n _ (if l>=r then _ else _)
  split
  ·exact trivial
  ·refine⟨h.lt hn _,h.lt hn _,λc=>?_⟩;cases c with|true=>exact rj h k f _ _|false=>exact rj h k f _ _
theorem DJ:∀(f:Nat){p:Array Nat}(k:Nat),PR n p->qm n (PR n) (kas_bin f p k)|0,_,_,h=>h|f+1,p,k,h=>qm.bind (λl _=>DJ f _ ((bubble_perm p k _).toList.trans h)) (rj hn h _ _ _ _)
def HG:qm n (PR n) (kas_sort n):=qm.bind (λr a=>by
 show qm n _ (if r.1<n then _ else _)
 split
 ·exact DJ hn _ _ a
 ·exact a) (E6 hn _ (show(List.toArray (List.range n)).toList.Perm _ by exact .refl _))
end
section
variable{prog:Sb}{w:World}{A:Around}{E:R8}{s:Shared}{κ:SortKind}
def Gw{a:Addr}{c:Sa}{n:Nat}{P:Fin->Shared->Prop}(v:s.heap.get? a=some (seqObj "list" c.toArray n))(L:c.length<64)(M:2<=c.length->∀g:Shared,(∀b o,b≠a->s.heap.get? b=some o->g.heap.get? b=some o)->(∀Q:SortKind->Shared->Prop,Q κ g->wpAny (model prog w) A (keyKind' c.toArray) Q (λ_ _=>False) g)/\∀x y C,x∈c->y∈c->(∀b,C b g)->wpAny (model prog w) A (keyLt' κ x y) C (λ_ _=>False) g)(h:∀out:List Value,out.Perm c->P (.done (.ret .none)) {s with heap:=sortedHeap s.heap a c out.toArray}):wpAny (model prog w) A (Builtin.«list.sort» ⟨[.ref a],[]⟩) P E s:=by
 rw[list_sort_plain];have B:c.toArray.size=c.length:=by simp
 refine a_ (listItems_at v rfl ?_);refine a_ (listUpdate_at v rfl ?_ (by rw[B,lm];lia) (n0 _));obtain⟨D,k⟩:∃D,(s.heap.update a (Obj.mapSeq λ_=>#[])).get? a=some (seqObj "list" #[] D):=⟨_,get?_update_seq v (λ_=>#[])⟩;refine a_ (seqEpoch_at k rfl ?_);refine a_ (wpAny_newTuple ?_ (by show c.length<=_;rw[lm];lia));refine a_ (wpAny_newList ?_ (n0 _));refine p_ ?_;have kept:∀b o,b≠a->s.heap.get? b=some o->(((s.heap.update a (Obj.mapSeq λ_=>#[])).push (seqObj "tuple" c.toArray 0)).push (seqObj "list" #[] 0)).get? b=some o:=λb o N q=>b_ _ (b_ _ ((Heap.get?_update_ne _ _ _ _ N).trans q))
 have d:(((s.heap.update a (Obj.mapSeq λ_=>#[])).push (seqObj "tuple" c.toArray 0)).push (seqObj "list" #[] 0)).get? a=some (seqObj "list" #[] D):=b_ _ (b_ _ k);show wpAny (model prog w) A _ P E {s with heap:=((s.heap.update a (Obj.mapSeq λ_=>#[])).push (seqObj "tuple" c.toArray 0)).push (seqObj "list" #[] 0)};dsimp only;have F:(c.toArray.zip c.toArray).size=c.length:=by simp
 by_cases h2:c.toArray.size<2
 ·rw[kw h2,kw h2];refine a_ (e_ ?_);rw[StateT.run_pure];refine a_ (e_ ?_);dsimp only;refine a_ (seqEpoch_at d rfl ?_);refine a_ (listUpdate_at d rfl ?_ (n0 _) (by refine n7 (Qo ((Array.size_map ..).trans F)) ?_;rw[lm];lia));simp only[bne_self_eq_false,Qk,Q4];have e:(c.toArray.zip c.toArray).map (·.2)=c.toArray:=by
   apply Array.toList_inj.mp;have e:(c.toArray.zip c.toArray).toList=c.zip c:=by simp
   rw[Array.toList_map,e];exact List.map_snd_zip (f_ _)
  have:=h c (.refl _);rw[<-e]at this;exact e_ this
 ·rw[ku h2,ku h2];have l:2<=c.length:=by lia
  obtain⟨O,R⟩:=M l {s with heap:=((s.heap.update a (Obj.mapSeq λ_=>#[])).push (seqObj "tuple" c.toArray 0)).push (seqObj "list" #[] 0)} kept;refine a_ (wpAny_mono (O (λm K=>m=κ/\K={s with heap:=((s.heap.update a (Obj.mapSeq λ_=>#[])).push (seqObj "tuple" c.toArray 0)).push (seqObj "list" #[] 0)}) ⟨rfl,rfl⟩) (λm K z=>?_) λ_ _ x=>x.elim);obtain⟨rfl,rfl⟩:=z;refine a_ (wpAny_mono (kat_run (ks:=c) (vs:=c) (Q:=λf r=>∃p:Array Nat,arrOf f=p.map (kas_item (c.toArray.zip c.toArray))/\failedOf f=none/\PR c.length p/\r=_) (G:=λp r=>PR c.length p/\r=_) rfl l L (λp f r a1 T U a4=>⟨p,T,U,a4⟩) (qm.wp (λi j C hi V W=>?_) (λp u=>⟨u,rfl⟩) (HG (by lia)))) ?_ λ_ _ e=>e)
  ·unfold kas_ask;have mem:∀i,i<c.length->c.getD i Value.none∈c:=λi hi=>by rw[z8,h_ hi];exact Qx hi
   exact R _ _ C (mem i hi) (mem j V) W
  ·rintro⟨⟨⟩,f⟩r⟨p,H,X,u,rfl⟩;dsimp only;have t:=kat_snds (ks:=c) (vs:=c) rfl H;have I:p.toList.length=c.length:=by rw[u.length_eq,rd]
   have J:(p.toList.map λi=>c.getD i Value.none).Perm c:=by
    refine(u.map λi=>c.getD i Value.none).trans (R5 ?_);refine y2 λi=>?_;rw[j_]
    by_cases hi:i<c.length
    ·rw[Rx hi];simp[hi]
    ·rw[pa (by rw[rd];lia),pa (by lia)];rfl
   rw[t];refine a_ (seqEpoch_at d rfl ?_);refine a_ (listUpdate_at d rfl ?_ (n0 _) (by rw[lh,c_,I,lm];lia));rw[X];simp only[bne_self_eq_false,Qk,Q4];exact e_ (h _ J)
end
def BF(h:Heap)(v:Value):Prop:=∃a o n x y z t u b,v=.ref a/\h.get? a=some o/\o.cls=.type "tuple"/\o.data=.seq #[.str x t,.str y u,.str z b] n
def BF.kept(p:BF h v)(k:∀b o,h.get? b=some o->h'.get? b=some o):BF h' v:=by obtain⟨a,o,n,x,y,z,t,u,c,e,d,r⟩:=p;exact⟨a,o,n,x,y,z,t,u,c,e,k _ _ d,r⟩
section
variable{prog:Sb}{w:World}{A:Around}{E:R8}{s:Shared}
def Jk(g:BF s.heap v)(h:BF s.heap u)(d:∀b,C b s):wpAny (model prog w) A (keyLt' (tuples' true) v u) C (λ_ _=>False) s:=by obtain⟨a,o,n,x,y,z,p,q,r,rfl,i,hc,hd⟩:=g;obtain⟨B,D,F,G,H,I,j,k,l,rfl,e,m,f⟩:=h;have c:∀{x y:Str}{t u:Tok},wpAny (model prog w) A (oneLt' false (.str x t) (.str y u)) C (λ_ _=>False) s:=λ{x y t u}=>kat_one _ _ (lt_str (d _));refine kat_lt i hd e f (kat_cons (Q3 (kat_go (λ_=>kat_yes (kat_cons (Q3 (kat_go (λ_=>kat_yes (kat_cons (Q3 (kat_go (λ_=>kat_yes (kat_nil (d _))) (λ_=>kat_no c))))) (λ_=>kat_no c))))) (λ_=>kat_no (oneLt_str (d _))))))
theorem sd:∀{c:Sa},(∀v∈c,BF h v)->∃fs:List Value,KatTups h c fs/\fs.length=c.length/\∀v∈fs,∃x t,v=Value.str x t
 |[],_=>⟨[],.nil,rfl,λv b=>nomatch b⟩|u::r,d=>by
  obtain⟨a,o,n,x,y,z,e,g,i,rfl,f,hc,hd⟩:=d u (mm ..);obtain⟨fs,h1,h2,h3⟩:=sd λv b=>d v (k4 _ b);refine⟨.str x e::fs,.cons f hc hd rfl h1,by simp[h2],λv b=>?_⟩;rcases pw.mp b with rfl|b
  ·exact⟨_,_,rfl⟩
  ·exact h3 v b
def B0(g:s.heap.IsList l vs.toArray)(i:vs.length<64)(j:∀v∈vs,BF s.heap v)(h:∀out:List Value,out.Perm vs->Q (.ref (s.heap.objs.size+1)) {s with heap:=sortedAll s.heap vs out.toArray}):wpAny (model prog w) A (call (.builtin "sorted") [.ref l]) Q E s:=by
 refine Calls.call_function_entry kind_sorted plain_sorted entry_sorted (args_sorted1 _) ?_;unfold Builtin.«sorted»;refine a_ (m:=checkCount "sorted" 1 1 _) (e_ ?_);refine a_ (collect_list g ?_ (by rw[lm];lia));refine a_ (wpAny_newList ?_ (by rw[lm];lia));have c:((s.heap.push (seqObj "list" #[] 0)).update s.heap.objs.size (Obj.mapSeq (·++vs.toArray))).objs.size=s.heap.objs.size+1:=by rw[Heap.size_update,size_push']
 have e:(((s.heap.push (seqObj "list" #[] 0)).update s.heap.objs.size (Obj.mapSeq (·++vs.toArray))).push (seqObj "list" vs.toArray 0)).get? (s.heap.objs.size+1)=some (seqObj "list" vs.toArray 0):=by rw[<-c];exact g_ _ rfl
 have keep:∀b o,s.heap.get? b=some o->b≠s.heap.objs.size+1/\(((s.heap.push (seqObj "list" #[] 0)).update s.heap.objs.size (Obj.mapSeq (·++vs.toArray))).push (seqObj "list" vs.toArray 0)).get? b=some o:=λb o q=>by have a:b<s.heap.objs.size:=kl q;refine⟨l_ (r_ a),?_⟩;rw[Heap.get?_push_ne _ _ _ (by rw[c];exact l_ (r_ a)),Heap.get?_update_ne _ _ _ _ (l_ a),Heap.get?_push_ne _ _ _ (l_ a)];exact q
 show wpAny _ _ _ _ _ {s with heap:=((s.heap.push (seqObj "list" #[] 0)).update s.heap.objs.size (Obj.mapSeq (·++vs.toArray))).push (seqObj "list" vs.toArray 0)};rw[c];refine a_ (p_ (qr slot_list_sort (s:={s with heap:=((s.heap.push (seqObj "list" #[] 0)).update s.heap.objs.size (Obj.mapSeq (·++vs.toArray))).push (seqObj "list" vs.toArray 0)}) ⟨_,e,rfl⟩ entry_list_sort (Gw (κ:=tuples' true) e i (λh2 k n=>?_) λout a1=>⟨_,rfl,?_⟩) (args_list_sort _)))
 ·have d:∀v∈vs,BF k.heap v:=λv f=>(j v f).kept λb o q=>n b o (keep b o q).1 (keep b o q).2;refine⟨λF p=>?_,λx y C r u z=>Jk (d x r) (d y u) z⟩;obtain⟨fs,h1,B,h3⟩:=sd d;refine kat_kind (T:=Value.type "str") h1 (by lia) (λv f=>?_) (by decide+kernel) ?_
  ·obtain⟨x,t,rfl⟩:=h3 v f;exact Looks.of_pure rfl
  ·rw[show(Value.type "str"!=Value.type "tuple")=true by decide+kernel];exact p
 ·exact e_ ⟨_,rfl,h out a1⟩
end
theorem Dx:∀{c:Sg}{a:Sa},a9 (c.map V.ref) a->a=c.map Value.ref|[],_,.nil=>rfl|u::r,_,.cons h t=>by obtain rfl:_=Value.ref u:=h;rw[Dx t];rfl
theorem DB:∀{a:Sg},a9 (a.map V.ref) (a.map Value.ref)|[]=>.nil|_::_=>.cons rfl DB
def EE(h:out.Perm (c.map Value.ref)):∃d:List Addr,d.Perm c/\out=d.map Value.ref:=by
 let f:Value->Addr:=λv=>match v with|.ref a=>a|_=>0
 have e:(c.map Value.ref).map f=c:=by rw[w1];exact(Qf (g:=id) λa _=>rfl).trans (List.map_id c)
 have i:(out.map f).map Value.ref=out:=by rw[w1];refine(Qf (g:=id) λv j=>?_).trans (List.map_id out);obtain⟨a,_,rfl⟩:=nk.mp (h.mem_iff.mp j);rfl
 have b:=h.map f;rw[e]at b;exact⟨_,b,i.symm⟩
def De(K:R7)(A:X.K=K):cO X (.builtin "sorted") (λl H Q=>∃(p:Addr)(c:Sg),l=[.ref p]/\aX K H p (c.map V.ref)/\c.length<64/\(∀u∈c,∃x y z,aW K H u [.str x,.str y,.str z])/\∀(q:Addr)(d:Sg),H q=none->d.Perm c->Q (.ref q) (aA H q (.lst (d.map V.ref)))):=by
 subst A;intro m s P H l R Q I r h;obtain⟨p,c,rfl,B,hn,C,q⟩:=h;obtain⟨u,rfl,D⟩:=jJ r;obtain rfl:u=Value.ref p:=D;obtain⟨e,f,⟨o,n,g,i,w,E⟩,_⟩:=I.list B;obtain rfl:=Dx f;refine B0 (vs:=c.map Value.ref) ⟨o,g,i,n,E⟩ (by rw[c_];lia) (λv F=>?_) λout j=>?_
 ·obtain⟨a,hm,rfl⟩:=nk.mp F;obtain⟨x,y,z,G⟩:=C a hm;obtain⟨e,f,⟨o,g,i,n,w⟩,_⟩:=I.tuple G;cases f with|cons h1 t=>cases t with|cons h2 t=>cases t with|cons h3 t=>cases t;obtain⟨J,rfl⟩:=h1;obtain⟨L,rfl⟩:=h2;obtain⟨M,rfl⟩:=h3;exact⟨a,o,n,x,y,z,J,L,M,rfl,g,i,w⟩
 ·obtain⟨d,b,rfl⟩:=EE j;obtain⟨N,k⟩:=sortedAll_at s.heap (c.map Value.ref) (d.map Value.ref).toArray;have O:=b.length_eq;refine⟨.ref (s.heap.objs.size+1),_,I.laid (h':=sortedAll s.heap (c.map Value.ref) (d.map Value.ref).toArray) (t':=s.toks) (o:=.lst (d.map V.ref)) (λ_ _=>sortedAll_old) (r3 _) ⟨?_,_,N,DB,k⟩,rfl,q _ d (I.hok.fresh (r3 _)) b⟩;rw[c_,lm];lia
end L2
namespace L2
open PySem PySem.Spec PyProof.Rows PySem.W
def zx{J:It}{n:Nat}{g:TG}{ds:Sf}{k:Nat}{tc:TT}{te:TE}{r:St}{s:Hp}{D:Addr}{F:Hp->Prop}(Pv:Nat->List V->Hp->Prop)(h0:Pv 0 [] (aA s D (.lst [])))(hg:∀i a c,i<n->Pv i a c->J.go i c)(t:∀i a c x h,i<n->Pv i a c->J.yld i c x h->g x (fX ds k r) h λd q=>tc d q λb j=>if b=true then te d j λy l=>l D=some (.lst a)/\a.length<sizeLine/\∃f,f<n-i/\f=n-(i+1)/\i+1<=n/\Pv (i+1) (a++[y]) (aA l D (.lst (a++[y])))else∃f,f<n-i/\f=n-(i+1)/\i+1<=n/\Pv (i+1) a j)(hd:∀a c,Pv n a c->J.stop n c/\F c):∃W:Nat->Nat->List V->Hp->Prop,(∃m,W 0 m [] (aA s D (.lst [])))/\∀i m a c,W i m a c->(J.stop i c/\F c)\/(J.go i c/\∀x h,J.yld i c x h->g x (fX ds k r) h λd q=>tc d q λb j=>if b=true then te d j λy l=>l D=some (.lst a)/\a.length<sizeLine/\∃f,f<m/\W (i+1) f (a++[y]) (aA l D (.lst (a++[y])))else∃f,f<m/\W (i+1) f a j):=by
 refine⟨λi m a c=>m=n-i/\i<=n/\Pv i a c,⟨_,rfl,n0 _,h0⟩,?_⟩;rintro i m a c⟨rfl,hi,p⟩
 by_cases o:i<n
 ·exact .inr ⟨hg i a c o p,λx h y=>t i a c x h o p y⟩
 ·have e:i=n:=by lia
  subst e;exact .inl (hd a c p)
def Ib{J:It}{n:Nat}{g:TG}{j:TS}{D:ql}{a:St}{H:Hp}(Pv:Nat->St->Hp->Prop)(h0:Pv 0 a H)(hg:∀i a H,i<n->Pv i a H->J.go i H)(o:∀i a H x c,i<n->Pv i a H->J.yld i H x c->g x a c λd h=>j {D with nx:=Pv (i+1),ct:=Pv (i+1),bk:=D.nx} d h)(hd:∀a H,Pv n a H->J.stop n H/\D.nx a H):∃W:Nat->Nat->St->Hp->Prop,(∃m,W 0 m a H)/\∀i m a H,W i m a H->(J.stop i H/\D.nx a H)\/(J.go i H/\∃N:St->Hp->Prop,(∀f c,N f c->∃l,l<m/\W (i+1) l f c)/\∀x c,J.yld i H x c->g x a c λd h=>j {D with nx:=N,ct:=N,bk:=D.nx} d h):=by
 refine⟨λi m a H=>m=n-i/\i<=n/\Pv i a H,⟨n,by simp,n0 _,h0⟩,?_⟩;rintro i m a H⟨rfl,hi,p⟩
 by_cases b:i<n
 ·exact .inr ⟨hg i a H b p,Pv (i+1),λf c k=>⟨n-(i+1),by omega,rfl,b,k⟩,λx c y=>o i a H x c b p y⟩
 ·have e:i=n:=by lia
  subst e;exact .inl (hd a H p)
end L2
namespace L2
open PySem
def rF{K:R7}{f:Str}{a C dx:Addr}{fs:List (Str×V)}{v:V}{H:Hp}{R:V->Prop}(h:H a=some (.ins C dx fs))(hc:zR K C)(hn:aT K C f)(j:fs.lookup f=some v)(k:R v):∃g d e c i,V.ref a=.ref g/\H g=some (.ins d e c)/\zR K d/\aT K d f/\c.lookup f=some i/\R i:=⟨a,C,dx,fs,v,rfl,h,hc,hn,j,k⟩
def rM{a C dx:Addr}{m:Str}{fs:List (Str×V)}{H:Hp}{R:Prop}(h:H a=some (.ins C dx fs))(hn:fs.lookup m=none)(k:R):∃e d c,V.ref a=.ref e/\H e=some (.ins C d c)/\c.lookup m=none/\R:=⟨a,dx,fs,rfl,h,hn,k⟩
def rG{d:Type}{a:Addr}{A R:Addr->d->Prop}(v:d)(h:A a v)(k:R a v):∃c e,V.ref a=.ref c/\A c e/\R c e:=⟨a,v,rfl,h,k⟩
def rX{A:Addr->List V->Prop}{p:Addr}{c:List V}{i:Int}{v:V}{R:V->Prop}(h:A p c)(g:we c i=some v)(k:R v):∃d a e f,V.ref p=.ref d/\V.int i=.int e/\A d a/\we a e=some f/\R f:=⟨p,c,i,v,rfl,rfl,h,g,k⟩
def rA{l:Addr}{c:List V}{y:V}{H:Hp}{R:Addr->List V->V->Prop}(h:H l=some (.lst c))(f:c.length<sizeLine)(k:R l c y):∃d a e,V.ref l=.ref d/\[y]=[e]/\H d=some (.lst a)/\a.length<sizeLine/\R d a e:=⟨l,c,y,rfl,rfl,h,f,k⟩
def r2{i j:Int}{R:Int->Int->Prop}(k:R i j):∃a c,V.int i=.int a/\V.int j=.int c/\R a c:=⟨i,j,rfl,rfl,k⟩
def U{a:Type}{A R:a->Prop}{v:a}(h:A v)(k:R v):∃v,A v/\R v:=⟨v,h,k⟩
def ip{K:R7}{f:Str}{a C dx:Addr}{fs:List (Str×V)}{o:Option (Option V)}{v:V}{H:Hp}{R:V->Prop}(h:H a=some (.ins C dx fs))(hc:zR K C)(hn:aT K C f)(h0:o=some (some (.ref a)))(j:fs.lookup f=some v)(k:R v):∃w,o=some (some w)/\∃g d e c i,w=.ref g/\H g=some (.ins d e c)/\zR K d/\aT K d f/\c.lookup f=some i/\R i:=⟨_,h0,a,C,dx,fs,v,rfl,h,hc,hn,j,k⟩
def nh{a C dx:Addr}{m:Str}{fs:List (Str×V)}{o:Option (Option V)}{H:Hp}{R:V->Prop}(h:H a=some (.ins C dx fs))(h0:o=some (some (.ref a)))(hn:fs.lookup m=none)(k:R (.ref a)):∃w,o=some (some w)/\∃e d c,w=.ref e/\H e=some (.ins C d c)/\c.lookup m=none/\R w:=⟨_,h0,a,dx,fs,rfl,h,hn,k⟩
end L2
namespace L2
open PySem PySem.Spec PyProof.Rows PySem.W
section
variable{X:Cx}
end
end L2
namespace L2
open PySem PySem.Spec PyProof.Rows PySem.W
set_option genInjectivity false in
set_option genSizeOf false in
structure AF where
 x:Addr
 d:FuncData
structure Df(K:R7)(mg:R_)(n:Str)(st:Stmt)(a:AF)(ps:Sc):Prop where
 f:zQ K n n st a.x a.d
 m:mg n=some (.ref a.x)b:fW K a.d ps []
structure Mf(K:R7)(C:Addr)(n q:Str)(st:Stmt)(a:AF)(ps:Sc):Prop where
 f:zQ K n q st a.x a.d
 m:Ja K C n a.x
 b:fW K a.d ps []
def Dp(K:R7)(n:Str)(st:Stmt):Prop:=∃a:AF,PySem.W.nsIn K mainGlobals n=some (some (.ref a.x))/\zQ K n n st a.x a.d
def Mp(K:R7)(C:Addr)(n q:Str)(st:Stmt):Prop:=∃a:AF,PySem.W.findIn K (.ref C) n=some (some (.ref a.x))/\PySem.W.isFn K (.ref a.x)=true/\zQ K n q st a.x a.d
def Gp(K:R7)(n:Str)(x:Addr):Prop:=PySem.W.nsIn K mainGlobals n=some (some (.ref x))
def Ip(K:R7)(n:Str)(i:Int):Prop:=∃t,PySem.W.nsIn K mainGlobals n=some (some (.int i t))
def Pj(K:R7)(n:Str)(i:Str):Prop:=∃t,PySem.W.nsIn K mainGlobals n=some (some (.str i t))
def Zp(K:R7)(n:Str):Prop:=PySem.W.nsIn K mainGlobals n=some none
structure Cp(K:R7)(x:Addr):Prop where
 p0:PySem.W.plainGet K x Str.empty=true
 p1:PySem.W.hasDictIn K x=true
 p2:PySem.W.plainOver K x=true
 p3:PySem.W.findIn K (.ref x) "__setattr__"=some (some (.builtin "object.__setattr__"))p4:PySem.W.makesIn K x=true
 p5:PySem.W.keepIn K (.ref x)=true
section
variable{K:R7}{h:Heap}{mg:R_}{n q:Str}{st:Stmt}{x C:Addr}{fd:FuncData}
def Ly(a:PySem.W.nsIn K mainGlobals n=some (some (.ref x)))(f:zQ K n n st x fd):Dp K n st:=⟨⟨x,fd⟩,a,f⟩
def Oz(a:PySem.W.findIn K (.ref C) n=some (some (.ref x)))(i:PySem.W.isFn K (.ref x)=true)(f:zQ K n q st x fd):Mp K C n q st:=⟨⟨x,fd⟩,a,i,f⟩
def HV(a:PySem.W.nsIn K mainGlobals n=some (some (.ref x))):Gp K n x:=a
def NL(a:PySem.W.nsIn K mainGlobals n=some none):Zp K n:=a
def OT(a:PySem.W.excIn K x [.type "ValueError",.type "Exception",.type "BaseException",.type "object"] "ValueError.__new__"=true):ng K x:=a
def DE(a:PySem.W.findIn K (.ref C) n=some none):aT K C n:=a
def Gp.m(a:Gp K n x)(X:K.In h)(G:h.Ns mainGlobals mg):mg n=some (.ref x):=PySem.W.mg_of X G a
def Zp.m(a:Zp K n)(X:K.In h)(G:h.Ns mainGlobals mg):mg n=none:=PySem.W.mg_none_of X G a
def Ip.m{i:Int}(a:Ip K n i)(X:K.In h)(G:h.Ns mainGlobals mg):∃u,mg n=some u/\aU (.int i) u:=a.elim λ_ e=>⟨_,PySem.W.mg_of X G e,_,rfl⟩
def Pj.m{i:Str}(a:Pj K n i)(X:K.In h)(G:h.Ns mainGlobals mg):∃u,mg n=some u/\aU (.str i) u:=a.elim λ_ e=>⟨_,PySem.W.mg_of X G e,_,rfl⟩
abbrev NF(st:Stmt)(n q:Str)(kV a pm:Value)(d:Option Addr)(c ct:Value)(e:Sa):=bindArgs (PySem.W.fnOf n q (pQ st) (gp st) (ai st) .none kV a pm d c ct) ⟨e,[]⟩
variable{p1 p2 p3 p4 p5 c:Str}
def b1(F:zQ K n q st x fd)(h:∀kV a pm e d ct u,NF st n q kV a pm e d ct [u]=pure [(p1,u)]:=by intros;rfl):fW K fd [p1] []:=F.binds λkV a pm e d ct b f=>match b,f with|[u],_=>h kV a pm e d ct u
def b2(F:zQ K n q st x fd)(h:∀kV a pm e d ct u v,NF st n q kV a pm e d ct [u,v]=pure [(p1,u),(p2,v)]:=by intros;rfl):fW K fd [p1,p2] []:=F.binds λkV a pm e d ct b f=>match b,f with|[u,v],_=>h kV a pm e d ct u v
def b3(F:zQ K n q st x fd)(h:∀kV a pm e d ct u v w,NF st n q kV a pm e d ct [u,v,w]=pure [(p1,u),(p2,v),(p3,w)]:=by intros;rfl):fW K fd [p1,p2,p3] []:=F.binds λkV a pm e d ct b f=>match b,f with|[u,v,w],_=>h kV a pm e d ct u v w
def b4(F:zQ K n q st x fd)(h:∀kV a pm e d ct u v w y,NF st n q kV a pm e d ct [u,v,w,y]=pure [(p1,u),(p2,v),(p3,w),(p4,y)]:=by intros;rfl):fW K fd [p1,p2,p3,p4] []:=F.binds λkV a pm e d ct b f=>match b,f with|[u,v,w,y],_=>h kV a pm e d ct u v w y
def b5(F:zQ K n q st x fd)(h:∀kV a pm e d ct u v w y z,NF st n q kV a pm e d ct [u,v,w,y,z]=pure [(p1,u),(p2,v),(p3,w),(p4,y),(p5,z)]:=by intros;rfl):fW K fd [p1,p2,p3,p4,p5] []:=F.binds λkV a pm e d ct b f=>match b,f with|[u,v,w,y,z],_=>h kV a pm e d ct u v w y z
def b6(F:zQ K n q st x fd)(h:∀kV a pm e d ct u v w y z r,NF st n q kV a pm e d ct [u,v,w,y,z,r]=pure [(p1,u),(p2,v),(p3,w),(p4,y),(p5,z),(c,r)]:=by intros;rfl):fW K fd [p1,p2,p3,p4,p5,c] []:=F.binds λkV a pm e d ct b f=>match b,f with|[u,v,w,y,z,r],_=>h kV a pm e d ct u v w y z r
end
def cd{i j:Int}(h:decide (0<j/\j<1073741824)=true):fh i j:=(rm h:0<j/\j<1073741824)
def ls{n:Nat}(h:Nat.ble n 65536=true):n<=sizeLine:=c8 (Nat.le_of_ble_eq_true h)
section
variable{X:Cx}{n:Str}{st:Stmt}{a:AF}{l:Sc}{sp:Sp}{j k:Nat}{e:Expr}{h:Sd}{t:TA}{p c:Pos}
def pc(D:Df X.K X.mg n st a l)(F:aO X.prog X.w X.K X.mg X.base dk j a.x a.d l sp)(o:eK k X.A)(q:PA X (e::h) t)(r:j<=k:=by decide)(hg:Gl X n:=by rfl)(g:(n==("__debug__":Str))=false:=by decide)(s:starEach (e::h) X.env=(false,eval e X.env)::starEach h X.env:=by rfl)(i:(backTo c (starEach h X.env)).any (·.1)=false:=by rfl):PE X (.Call (.Name n p) (e::h) [] c) (F1 sp [] E0 t):=bw (F.mono r) o hg D.m D.f.kp D.b .nil bh q g s i
def bg(i:Nat){x:Str}{te:TE}{d:Pos}(g:X.N.Nodup)(o:PE X e te)(hi:X.N[i]?=some x:=by rfl)(f:X.env.scope.names.lookup x=some .local:=by rfl)(q:swapsWith e (some (.Name x d)) c.line X.env=pure false:=by rfl):PS X (.Assign [.Name x d] e c) (BY te (kX i)):=yF g hi (.inl f) o q (.inr f)
def qK(i:Nat){x:Str}(f:X.N.Nodup)(hi:X.N[i]?=some x:=by rfl)(d:X.env.scope.names.lookup x=some .local:=by rfl):PG X (.Name x c) (kX i):=yH f hi (.inl d) (.inr d)
def qL(N0 d:Sc)(i:Nat){x:Str}(f:(N0++d).Nodup:=by decide+kernel)(g:X.N=N0++d:=by rfl)(hi:(N0++d)[i]?=some x:=by rfl)(o:NJ X.env.scope x:=by first|exact Or.inl rfl|exact Or.inr rfl)(q:X.fn x=true\/X.env.scope.names.lookup x=some .local:=by first|exact .inl rfl|exact .inr rfl):PG X (.Name x c) (kX i):=by rw[<-g]at f hi;exact yH f hi o q
def wc(N0 d:Sc)(ds r:Sf)(i:Scope){o s f:Expr}{q:Sd}{scope:Scope}{w:TI}{g:TG}{tc:TT}{te:TE}(hg:GK g r)(hi:PI X s f w)(y:∀cl C s₀ H₀ ex,PG (X.comp scope (N0++d) cl C s₀ H₀ ex) s g/\Le (X.comp scope (N0++d) cl C s₀ H₀ ex) q tc/\PE (X.comp scope (N0++d) cl C s₀ H₀ ex) o te)(hc:X.calm=true:=by rfl)(u:X.N=N0:=by rfl)(v:X.env.scope=i:=by rfl)(ok:rK N0 ds i scope=true:=by decide+kernel)(z:(r.all λj=>ds.contains j||decide (N0.length<=j))=true:=by decide+kernel)(A:∀x,foldedSetIterable f X.env x=pure x:=by intro _;rfl):PE X (.ListComp o [⟨s,f,q,0⟩] scope c) (uj w g ds d.length tc te):=K0 N0 d ds r i hc u v ok z hg hi y A
def OZ(i:Nat)(N0 d:Sc)(ds w:Sf)(o:Scope){x:Str}{q r:Pos}{s v f:Expr}{u:Sd}{scope:Scope}{E:TI}{g:TG}{tc:TT}{te:TE}(hg:GK g w)(hi:PI X v f E)(F:∀cl C s₀ H₀ ex,PG (X.comp scope (N0++d) cl C s₀ H₀ ex) v g/\Le (X.comp scope (N0++d) cl C s₀ H₀ ex) u tc/\PE (X.comp scope (N0++d) cl C s₀ H₀ ex) s te)(y:N0.Nodup)(hc:X.calm=true:=by rfl)(z:X.N=N0:=by rfl)(A:X.env.scope=o:=by rfl)(ok:rK N0 ds o scope=true:=by decide+kernel)(G:(w.all λj=>ds.contains j||decide (N0.length<=j))=true:=by decide+kernel)(B:N0[i]?=some x:=by rfl)(H:o.names.lookup x=some .local:=by rfl)(D:swapsWith (.ListComp s [⟨v,f,u,0⟩] scope c) (some (.Name x q)) r.line X.env=pure true:=by rfl)(I:∀x,foldedSetIterable f X.env x=pure x:=by intro _;rfl):PS X (.Assign [.Name x q] (.ListComp s [⟨v,f,u,0⟩] scope c) r) (BY (uj E g ds d.length tc te) (kX i)):=ID N0 d ds w o hc z A ok G hg hi F y B H D I
def iX(K:R7){a b:Expr}{d f:TE}(g:PE X a d)(i:PE X b f)(o:X.K=K:=by rfl)(q:zM b:=by intro _ _;rfl):PE X (.Subscript a b c) (Nx (Ms K) d f):=Au (HI K o) g i q
def df(K:R7){a b:Expr}{d f:TE}(g:PE X a d)(i:PE X b f)(o:X.K=K:=by rfl)(q:zM b:=by intro _ _;rfl):PE X (.Subscript a b c) (Nx (Mr K) d f):=Au (KI K o) g i q
end
section
variable{P:Sb}{w:World}{K:R7}{mg:R_}{base:Heap}{n q:Str}{st:Stmt}{a:AF}{C:Addr}{N c:Sc}{k:Nat}{sp:Sp}
theorem Df.ok(D:Df K mg n st a c)(S:au N c (ai st))(e:∀(g:Value)(A:Around)(outer:List Env)(s:Shared)(H:Hp)(i:List V)(Q:VK)(E:XK),eK k (A.deeper (envOfC n (ai st) s.heap.objs.size a.x g))->sp i H Q E->∃t,xi (rE dk P w K mg base N n (ai st) a.x g A outer s H E).nox (gp st) t/\t {nx:=λ_ j=>Q .non j,rt:=Q} (i8 N i) H)(len:∀i H Q E,sp i H Q E->i.length=c.length:=by intro _ _ _ _ h;cases h;subst_vars;rfl):aO P w K mg base dk (k+1) a.x a.d c sp:=D.f.ok S len e
theorem Mf.ok(D:Mf K C n q st a c)(S:au N c (ai st))(e:∀(g:Value)(A:Around)(outer:List Env)(s:Shared)(H:Hp)(i:List V)(Q:VK)(E:XK),eK k (A.deeper (envOfC q (ai st) s.heap.objs.size a.x g))->sp i H Q E->∃t,xi (rE dk P w K mg base N q (ai st) a.x g A outer s H E).nox (gp st) t/\t {nx:=λ_ j=>Q .non j,rt:=Q} (i8 N i) H)(len:∀i H Q E,sp i H Q E->i.length=c.length:=by intro _ _ _ _ h;cases h;subst_vars;rfl):aO P w K mg base dk (k+1) a.x a.d c sp:=D.f.ok S len e
theorem Df.okE(D:Df K mg n st a c)(S:au N c (ai st))(e:∀(g:Value)(A:Around)(outer:List Env)(s:Shared)(H:Hp)(i:List V)(Q:VK)(E:XK),eK k (A.deeper (envOfC n (ai st) s.heap.objs.size a.x g))->sp i H Q E->∃t,xi (rE (sN P w) P w K mg base N n (ai st) a.x g A outer s H E) (gp st) t/\t {nx:=λ_ j=>Q .non j,rt:=Q} (i8 N i) H)(len:∀i H Q E,sp i H Q E->i.length=c.length:=by intro _ _ _ _ h;cases h;subst_vars;rfl):aO P w K mg base (sN P w) (k+1) a.x a.d c sp:=D.f.okE S len e
theorem Mf.okE(D:Mf K C n q st a c)(S:au N c (ai st))(e:∀(g:Value)(A:Around)(outer:List Env)(s:Shared)(H:Hp)(i:List V)(Q:VK)(E:XK),eK k (A.deeper (envOfC q (ai st) s.heap.objs.size a.x g))->sp i H Q E->∃t,xi (rE (sN P w) P w K mg base N q (ai st) a.x g A outer s H E) (gp st) t/\t {nx:=λ_ j=>Q .non j,rt:=Q} (i8 N i) H)(len:∀i H Q E,sp i H Q E->i.length=c.length:=by intro _ _ _ _ h;cases h;subst_vars;rfl):aO P w K mg base (sN P w) (k+1) a.x a.d c sp:=D.f.okE S len e
end
end L2
namespace L2
open PySem PySem.Spec PyProof.Rows PySem.W
section
variable{X:Cx}
end
end L2
namespace L2
open PySem PySem.W PyProof.Rows
section
variable{M:Model}{A:Around}{E:R8}
def ER{C D N W:Addr}{nm q u X:Str}{bs v p c:Sa}{hd Z sub ab w x y i z j}{dd B:Option Addr}{k0 k1 k2 k3 k5 F G H I J:Option Value}{id L:String}{s:Shared}{e tup:Addr}{P:Obj}{Q:Bool->Shared->Prop}(r:s.heap.get? C=some (excClassObj nm q C N bs p hd Z sub ab w dd k0 k1 k2 k3 k5 id))(l:s.heap.get? D=some (excClassObj u X D W v c x y i z j B F G H I J L))(T:s.heap.get? e=some P)(a:P.cls=.ref C\/P.cls=.ref D)(ht:IsTup s.heap tup #[.ref C,.ref D])(hb:p.contains (.type "BaseException")=true)(R:c.contains (.type "BaseException")=true)(S:Q true s):wpAny M A (excMatches (.ref e) (.ref tup)) Q E s:=by
 obtain⟨o,U,hc,n,K⟩:=ht;obtain⟨h,g,d,t,os⟩:=s;have b:(Value.ref C::p).contains (.type "BaseException")=true:=by rw[QP,hb,Bool.or_true]
 have k:(Value.ref D::c).contains (.type "BaseException")=true:=by rw[QP,R,Bool.or_true]
 unfold excMatches;refine a_ (Qs ⟨o,U,hc⟩ isSubtype_tuple_tuple ?_);dsimp only;rw[kw rfl];refine a_ (rl U K ?_);dsimp only[Option.getD_some,Option.getD];have O:(Value.ref C::p).contains (.ref C)=true:=by rw[QP,t0,Bool.true_or]
 have m:(Value.ref D::c).contains (.ref D)=true:=by rw[QP,t0,Bool.true_or]
 have f:=tc_notTuple;rcases a with a|a
 ·repeat(first|(with_reducible refine L_ T ?_;rw[a])|with_reducible refine L_ r ?_|with_reducible refine L_ l ?_|(with_reducible refine Qe r ?_;first|rw[b]|rw[O])|(with_reducible refine Qe l ?_;rw[k])|wp_step)
  exact S
 ·repeat(first|(with_reducible refine L_ T ?_;rw[a])|with_reducible refine L_ r ?_|with_reducible refine L_ l ?_|(with_reducible refine Qe r ?_;rw[b])|(with_reducible refine Qe l ?_;first|rw[k]|rw[m]|skip)|wp_step)
  cases V:(Value.ref D::c).contains (Value.ref C)with
 |true=>
   rw[kw rfl]
   repeat wp_step
   exact S|false=>
   rw[ku mo]
   repeat(first|(with_reducible refine Qe l ?_;rw[m])|wp_step)
   exact S
end
def NY(c:XK->TS)(d e:Addr)(f:TS):TS:=λD a H=>c (λb _ g=>(b=.ref d\/b=.ref e)/\f D a g) D a H
def J4{X:Cx}{st b0:Stmt}{c:List Stmt}{tb:XK->TS}{th:TS}{C1 C2:Addr}{C G:Str}{n p g al:Pos}{k i}(L:X.stack=X.env::X.outer)(hf:X.env.frame=some X.env.locals)(an:ng X.K C1)(ap:Gl X C)(as:X.mg C=some (.ref C1))(a0:ng X.K C2)(a2:Gl X G)(a3:X.mg G=some (.ref C2))(J:∀(E:XK)(a:R9)(j:St)(Xe:R8),jr (sN X.prog X.w) (X.wish Xe) E a j->No (X.wish Xe) a j st (tb E))(hh:∀l,xi (X.inExc l) (b0::c) th)(M:(C==("__debug__":Str))=false:=by decide)(P:(G==("__debug__":Str))=false:=by decide):PS X (.Try [st] [.ExceptHandler (some (.Tuple [.Name C n,.Name G p] k i)) none (b0::c) g] [] [] al) (NY tb C1 C2 th):=by
 intro a s j H D I h;refine wpAny_Try_except ?_;have hp:jr (sN X.prog X.w) (X.wish λe s₁=>wpAny (model X.prog X.w) X.A (noteFrame e X.env) (λ_ O=>wpAny (model X.prog X.w) X.A (setFlight e none) (λ_ Q=>wpAny (model X.prog X.w) X.A (handleBy e X.env [.ExceptHandler (some (.Tuple [.Name C n,.Name G p] k i)) none (b0::c) g]) (SP X a D) X.xe Q) X.xe O) X.xe s₁) (λC' _ R=>(C'=.ref C1\/C'=.ref C2)/\th D j R) a j:=by
  rintro H1 s1 e r I1⟨l,C',B,t,R,rfl,os,bare,un,hok,S,U,d,a5,a6⟩;have I1:=I1.unwish;have un:Un (jG X.stack) [] H1 R s1.heap r.heap:=un;have S:Heap.FlyingW B X.stack l C' (.ref t) r.heap:=S;have d:∀b o,s1.heap.get? b=some o->b∉jG X.stack->∃u,B.get? b=some u:=d;have a7:∀b∈jG X.stack,H1 b=none/\∀o,s1.heap.get? b=some o->∀vs,o.data≠.fields vs:=λb J=>by refine⟨I1.stkFree b J,λo e=>?_⟩;obtain⟨_,o',V,hd⟩:=I1.stack.mem J;rw[e]at V;cases V;exact hd
  have m:∀h5,B.StaysIn h5->r.heap.UpToSlots h5->aL X a j R {r with heap:=h5}:=λh5 k up=>I1.call' (s':={r with heap:=h5}) (ch:=[]) os (un.flown d S.1 k up a7) (hok.flown U S.1 k) bare λb z=>absurd z (by simp)
  show wpAny (model X.prog X.w) X.A (noteFrame (.ref l) X.env) _ X.xe r;have W:=S;rw[L]at W;refine wpAny_looks_onW (outer:=X.outer) (by rw[I.ok.frames,L]) hf W λh4 x Y=>?_;refine wpAny_landsW x λh5 y Z=>?_;have I5:=m h5 y.1 (Y.trans Z);obtain⟨bm,N,nm,q,bs,hd,sn,sub,ab,bt,dd,k0,k1,k2,k3,k5,mN,a8,hN,bv,T⟩:=an.at I.mod.kin;obtain⟨bz,N',bN,q',b8,b9,cc,bi,ci,bj,cF,c0,c1,c2,c3,c4,da,aa,dc,bl,T'⟩:=a0.at I.mod.kin;refine wpAny_handleBy_cons (codeAny_handlers_test ?_) (by intro z;cases z);refine wpAny_Tuple_spliced ?_;show wpAny _ _ (spliced ((false,eval (.Name C n) X.env)::(false,eval (.Name G p) X.env)::[])) _ _ _;refine rk (jY (I5.inExc l) ap as ?_ M);refine rk (jY (I5.inExc l) a2 a3 ?_ P);refine t_ ⟨by show 2<=sizeLine;rw[lm];decide,?_⟩;obtain⟨ob,ba,ad⟩:=y.there;refine ER (b_ _ (I5.bk _ _ a8)) (b_ _ (I5.bk _ _ aa)) (b_ _ ba) (by rw[ad];exact a5) ⟨_,g_ _ rfl,rfl,_,rfl⟩ (T.hasType PySem.F.excBase_ValueError.hasBase) (T'.hasType PySem.F.excBase_ValueError.hasBase) (codeAny_handlers_suite ?_);refine lands_againW (flying_keeps y λb u e=>b_ _ e) λh7 bb bc=>?_;exact wpAny_mono (hh l a _ j R D ((m h7 bb.1 ((Y.trans Z).trans (Heap.UpToSlots.trans (λb o J _=>⟨o.slots,b_ _ J⟩) bc))).inExc l) a6) (λf s2 z=>z.outExc I.ok) λ_ _ z=>z.elim
 have b:=J _ a j _ hp s H D (I.wish _) h;refine Q2 (wpAny_mono b (λf s1 z=>?_) λ_ _ z=>z);have z:=z.unwish;cases f with|next=>exact H_ (H_ z)|ret v=>exact z|brk=>exact z|cont=>exact z
end L2
namespace My
open PySem L2
seal L2.xi L2.PS L2.PE L2.PT L2.PA L2.PI L2.PG L2.PW L2.Np L2.PO
def fJ(i:Nat):Stmt:=PySem.Challenge.pw_layersplit_k31_points_counted.main.body.getD i (.Pass ⟨0,0,0,0⟩)
abbrev pE(c i:Nat):Stmt:=(K1 (fJ c)).getD i (.Pass ⟨0,0,0,0⟩)
abbrev md:Stmt:=fJ 2
abbrev om:Stmt:=fJ 22
abbrev iM:Stmt:=fJ 23
abbrev qF:Stmt:=fJ 24
abbrev oo:Stmt:=fJ 25
abbrev lr:Stmt:=fJ 30
abbrev og:Stmt:=fJ 31
abbrev mf:Stmt:=fJ 37
abbrev qI:Stmt:=fJ 38
abbrev io:Stmt:=fJ 39
abbrev ou:Stmt:=fJ 40
abbrev lD:Stmt:=fJ 41
abbrev lq:Stmt:=fJ 42
abbrev qH:Stmt:=fJ 43
abbrev pf:Stmt:=fJ 44
abbrev oq:Stmt:=fJ 50
abbrev qG:Stmt:=fJ 51
abbrev on:Stmt:=fJ 52
abbrev me:Stmt:=fJ 53
abbrev iN:Stmt:=fJ 54
abbrev ic:Stmt:=fJ 55
abbrev lC:Stmt:=fJ 56
abbrev kd:Stmt:=fJ 57
abbrev lu:Stmt:=fJ 58
abbrev ke:Stmt:=fJ 59
abbrev ka:Stmt:=fJ 60
abbrev lw:Stmt:=fJ 61
abbrev mh:Stmt:=fJ 62
abbrev gw:Stmt:=fJ 63
abbrev kc:Stmt:=fJ 64
abbrev j9:Stmt:=fJ 65
abbrev ib:Stmt:=fJ 66
abbrev lB:Stmt:=fJ 67
abbrev j8:Stmt:=fJ 68
abbrev kf:Stmt:=fJ 69
abbrev jb:Stmt:=fJ 70
abbrev iC:Stmt:=fJ 71
abbrev lz:Stmt:=fJ 72
abbrev j7:Stmt:=fJ 73
abbrev lx:Stmt:=fJ 74
abbrev lA:Stmt:=fJ 75
abbrev oj:Stmt:=fJ 77
abbrev yz:Stmt:=fJ 78
abbrev oh:Stmt:=fJ 80
abbrev jd:Stmt:=pE 82 0
abbrev gx:Stmt:=pE 82 1
abbrev f9:Stmt:=pE 82 2
abbrev iP:Stmt:=pE 82 3
abbrev iO:Stmt:=pE 82 4
abbrev ga:Stmt:=pE 82 5
abbrev lE:Stmt:=pE 82 6
abbrev je:Stmt:=pE 85 0
abbrev jc:Stmt:=pE 86 0
abbrev jh:Stmt:=pE 87 0
abbrev oz:Stmt:=pE 87 1
abbrev lG:Stmt:=pE 87 2
abbrev gC:Stmt:=pE 87 3
abbrev gA:Stmt:=pE 87 4
abbrev dw:Stmt:=pE 87 5
abbrev iE:Stmt:=pE 87 6
abbrev gB:Stmt:=pE 87 7
abbrev gD:Stmt:=pE 87 8
abbrev jg:Stmt:=pE 87 9
abbrev gz:Stmt:=pE 87 10
abbrev iD:Stmt:=pE 87 11
abbrev dn:Stmt:=pE 87 12
abbrev eX:Stmt:=pE 87 13
abbrev gy:Stmt:=pE 87 14
abbrev kh:Stmt:=pE 87 16
abbrev gb:Stmt:=pE 87 17
abbrev jf:Stmt:=pE 87 18
abbrev gc:Stmt:=pE 87 24
abbrev kg:Stmt:=pE 87 28
abbrev oy:Stmt:=fJ 89
abbrev uN:Stmt:=fJ 90
abbrev yA:Stmt:=fJ 91
abbrev uO:Stmt:=fJ 92
abbrev yB:Stmt:=fJ 93
abbrev ph:Stmt:=fJ 94
abbrev yC:Stmt:=fJ 95
abbrev lF:Stmt:=fJ 96
abbrev iQ:Stmt:=fJ 97
abbrev mi:Stmt:=fJ 98
abbrev yD:Stmt:=fJ 99
abbrev uM:Stmt:=fJ 100
abbrev mR:Stmt:=fJ 101
abbrev tX:Stmt:=fJ 102
abbrev ox:Stmt:=fJ 103
abbrev uL:Stmt:=fJ 104
abbrev GE:Stmt:=fJ 105
set_option genInjectivity false in
set_option genSizeOf false in
structure iK where(dz gk fF dQ kW kU kK fb m6 i5 cp bQ kC m4 dH eM mZ kT i0 gN fU kZ fQ fG eQ fP gI gJ bM bI fO fM gL fN fS fc eA gK fL eP eR kR xR kL dW b7 aY dU dS cK fH dY dR d7 jw fI cV cU bC dh ce cW d6 cT cx cf cS cb eU cL dZ d0 cD jv dX pX r6 eJ rZ x9 gQ gP rT yb rY m8 yc ju rW law:AF)(bN eT fC bj vL DW IZ IX LD pU I0 IY DU BI DV wb oP fg vN:Addr)pm:Params
structure Txt(K:R7)(mg:R_)(a:iK):Prop where
 dz:Df K mg "points_in" md a.dz ["house","trial","arm"]gk:Df K mg "is_whole" om a.gk ["thing"]fF:Df K mg "is_text_of" iM a.fF ["thing","signs","longest"]dQ:Df K mg "is_word" qF a.dQ ["thing"]kW:Df K mg "is_guest" oo a.kW ["thing"]kU:Df K mg "is_prime" lr a.kU ["thing"]kK:Df K mg "point_of" og a.kK ["p","salt","guest"]fb:Df K mg "is_number" mf a.fb ["thing"]m6:Df K mg "is_mark" qI a.m6 ["thing"]i5:Df K mg "are_marks" io a.i5 ["thing"]cp:Df K mg "has_form" ou a.cp ["thing","depth"]bQ:Df K mg "all_within" lD a.bQ ["rule"]kC:Df K mg "words_of" lq a.kC ["rule"]m4:Df K mg "is_rule" qH a.m4 ["thing"]dH:Df K mg "holds" pf a.dH ["rule","marks"]eM:Df K mg "is_count" oq a.eM ["thing"]mZ:Df K mg "is_salt" qG a.mZ ["thing"]kT:Df K mg "is_total" on a.kT ["thing"]i0:Df K mg "is_weight" me a.i0 ["thing"]gN:Df K mg "are_counts" iN a.gN ["thing","many"]fU:Df K mg "are_weights" ic a.fU ["thing","many"]kZ:Df K mg "are_arms" lC a.kZ ["thing"]fQ:Df K mg "check_house" kd a.fQ ["prime","salt"]fG:Df K mg "check_word" lu a.fG ["thing"]eQ:Df K mg "check_guest" ke a.eQ ["thing"]fP:Df K mg "check_marks" ka a.fP ["thing"]gI:Df K mg "check_rule" lw a.gI ["thing"]gJ:Df K mg "check_new" mh a.gJ ["thing","names"]bM:Df K mg "check_standing" gw a.bM ["thing","names"]bI:Df K mg "check_known" kc a.bI ["thing","names"]fO:Df K mg "check_place" j9 a.fO ["thing","prime"]fM:Df K mg "check_slope" ib a.fM ["thing","prime","layers"]gL:Df K mg "check_arms" lB a.gL ["thing"]fN:Df K mg "check_shuts" j8 a.fN ["thing","trials"]fS:Df K mg "check_count" kf a.fS ["thing"]fc:Df K mg "check_shares" jb a.fc ["thing","many"]eA:Df K mg "check_dealing" iC a.eA ["total","weights","many"]gK:Df K mg "check_form" lz a.gK ["deed"]fL:Df K mg "check_trial" j7 a.fL ["deed","layers","trials"]eP:Df K mg "check_open" lx a.eP ["deed","trials"]eR:Df K mg "check_deed" lA a.eR ["deed","prime","layers","trials"]kR:Df K mg "most_due" oj a.kR ["weights","given"]xR:Df K mg "dealt" yz a.xR ["total","weights"]kL:Df K mg "place_of" oh a.kL ["p","slope","point"]dW:Mf K a.bN "__init__" "Table.__init__" jd a.dW ["self","many"]b7:Mf K a.bN "owner_of" "Table.owner_of" gx a.b7 ["self","place"]aY:Mf K a.bN "places_of" "Table.places_of" f9 a.aY ["self","owner"]dU:Mf K a.bN "free" "Table.free" iP a.dU ["self"]dS:Mf K a.bN "told" "Table.told" iO a.dS ["self","wanted"]cK:Mf K a.bN "give_back" "Table.give_back" ga a.cK ["self","owner","number"]fH:Mf K a.bN "take" "Table.take" lE a.fH ["self","owner","number"]dY:Mf K a.eT "__init__" "Layer.__init__" je a.dY ["self","slope","many"]dR:Mf K a.fC "__init__" "Trial.__init__" jc a.dR ["self","home","arms","rule","shuts"]d7:Mf K a.bj "__init__" "House.__init__" jh a.d7 ["self","prime","salt"]jw:Mf K a.bj "do" "House.do" oz a.jw ["self","deed"]fI:Mf K a.bj "done" "House.done" lG a.fI ["self","deed"]cV:Mf K a.bj "do_layer" "House.do_layer" gC a.cV ["self","name","slope"]cU:Mf K a.bj "do_trial" "House.do_trial" gA a.cU ["self","name","trial"]bC:Mf K a.bj "do_share" "House.do_share" dw a.bC ["self","name","numbers"]dh:Mf K a.bj "do_hold" "House.do_hold" iE a.dh ["self","name","number"]ce:Mf K a.bj "do_pause" "House.do_pause" gB a.ce ["self","name","paused"]cW:Mf K a.bj "do_close" "House.do_close" gD a.cW ["self","name"]d6:Mf K a.bj "do_bar" "House.do_bar" jg a.d6 ["self","guest","name"]cT:Mf K a.bj "do_visit" "House.do_visit" gz a.cT ["self","guest","marks"]cx:Mf K a.bj "put_out" "House.put_out" iD a.cx ["self","layer","guests"]cf:Mf K a.bj "after_visit" "House.after_visit" dn a.cf ["self","guest","marks"]cS:Mf K a.bj "seat_for" "House.seat_for" eX a.cS ["self","layer","guest","marks","been"]cb:Mf K a.bj "place_in" "House.place_in" gy a.cb ["self","layer","guest"]eU:Mf K a.bj "owner" "House.owner" kh a.eU ["self","layer","place"]cL:Mf K a.bj "places_in" "House.places_in" gb a.cL ["self","trial","arm"]dZ:Mf K a.bj "places" "House.places" jf a.dZ ["self","trial","arm"]d0:Mf K a.bj "layers" "House.layers" gc a.d0 ["self"]cD:Mf K a.bj "prime" "House.prime" kg a.cD ["self"]jv:Df K mg "_law_cell_at" oy a.jv ["_law_script","_law_k"]dX:Df K mg "_law_mixed" uN a.dX ["_law_script","_law_k","_law_salt"]pX:Df K mg "_law_word" yA a.pX ["_law_k","_law_number"]r6:Df K mg "_law_guest" uO a.r6 ["_law_k","_law_number"]eJ:Df K mg "_law_rule" yB a.eJ ["_law_number","_law_high"]rZ:Df K mg "_law_marks" ph a.rZ ["_law_number"]x9:Df K mg "_law_plan" yC a.x9 ["_law_script"]gQ:Df K mg "_law_new_layer" lF a.gQ ["_law_script","_law_plan_here"]gP:Df K mg "_law_new_trial" iQ a.gP ["_law_script","_law_plan_here","_law_number"]rT:Df K mg "_law_share" mi a.rT ["_law_script","_law_plan_here","_law_k","_law_number"]yb:Df K mg "_law_deed" yD a.yb ["_law_script","_law_plan_here","_law_k"]rY:Df K mg "_law_place" uM a.rY ["_law_p","_law_slope","_law_x","_law_y"]m8:Df K mg "_law_owners" mR a.m8 ["_law_house","_law_name"]yc:Df K mg "_law_arms" tX a.yc ["_law_script","_law_plan_here"]ju:Df K mg "_law_refused" ox a.ju ["_law_house","_law_trial","_law_arm"]rW:Df K mg "_law_right" uL a.rW ["_law_script","_law_house","_law_plan_here"]law:Df K mg "law" GE a.law ["_law_script"]FD:∃u,mg "LETTERS"=some u/\aU (.str "abcdefghijklmnopqrstuvwxyz") u
 nJ:∃u,mg "GUEST_SIGNS"=some u/\aU (.str "abcdefghijklmnopqrstuvwxyz0123456789") u
 vC:∃u,mg "LONGEST_WORD"=some u/\aU (.int 12) u
 tR:∃u,mg "LONGEST_GUEST"=some u/\aU (.int 24) u
 xg:∃u,mg "LEAST_PRIME"=some u/\aU (.int 2) u
 rO:∃u,mg "GREATEST_PRIME"=some u/\aU (.int 997) u
 K4:∃u,mg "MIXER"=some u/\aU (.int 1009) u
 zG:∃u,mg "MOST_MARKS"=some u/\aU (.int 8) u
 vD:∃u,mg "DEEPEST_RULE"=some u/\aU (.int 6) u
 zF:∃u,mg "MOST_RULES"=some u/\aU (.int 30) u
 zC:∃u,mg "MOST_WORDS"=some u/\aU (.int 3) u
 By:∃u,mg "MOST_ARMS"=some u/\aU (.int 4) u
 zE:∃u,mg "MOST_SHUTS"=some u/\aU (.int 8) u
 zD:∃u,mg "MOST_TOTAL"=some u/\aU (.int 1000) u
 Ku:mg "Table"=some (.ref a.bN)bf:zR K a.bN
 Hi:L2.Mk K a.bN a.dW.x
 nG:aT K a.bN "many"ee:aT K a.bN "owners"gi:aT K a.bN "taken"Kw:mg "Layer"=some (.ref a.eT)bJ:zR K a.eT
 Hj:L2.Mk K a.eT a.dY.x
 gj:aT K a.eT "slope"dB:aT K a.eT "table"cj:aT K a.eT "inside"Kt:mg "Trial"=some (.ref a.fC)bd:zR K a.fC
 Hh:L2.Mk K a.fC a.dR.x
 ik:aT K a.fC "home"fA:aT K a.fC "arms"nE:aT K a.fC "rule"mz:aT K a.fC "shuts"iF:aT K a.fC "paused"d9:aT K a.fC "closed"iG:aT K a.fC "barred"Kx:mg "House"=some (.ref a.bj)az:zR K a.bj
 Hk:L2.Mk K a.bj a.d7.x
 bP:aT K a.bj "own_prime"jX:aT K a.bj "own_salt"aN:aT K a.bj "layer_named"aP:aT K a.bj "trial_named"dO:aT K a.bj "came_into"mB:aT K a.bj "deeds"Kv:mg "SplitError"=some (.ref a.vL)Jd:ng K a.vL
 NA:mg "NoHouse"=some (.ref a.DW)M8:ng K a.DW
 OG:mg "NoDeed"=some (.ref a.IZ)ND:ng K a.IZ
 OE:mg "NoWord"=some (.ref a.IX)NB:ng K a.IX
 Pg:mg "Taken"=some (.ref a.LD)OU:ng K a.LD
 xE:mg "Unknown"=some (.ref a.pU)vw:ng K a.pU
 OH:mg "NoArms"=some (.ref a.I0)NE:ng K a.I0
 OF:mg "NoRule"=some (.ref a.IY)NC:ng K a.IY
 Ny:mg "NoShuts"=some (.ref a.DU)M6:ng K a.DU
 MP:mg "NoNumber"=some (.ref a.BI)Lw:ng K a.BI
 Nz:mg "NoMarks"=some (.ref a.DV)M7:ng K a.DV
 AZ:mg "Closed"=some (.ref a.wb)xO:ng K a.wb
 AY:mg "NoRoom"=some (.ref a.oP)xN:ng K a.oP
 ET:mg "LENGTHS"=some (.ref a.fg)CS:L2.Lg K a.pm a.fg
 rg:∃tk,PySem.W.nsIn K a.fg "layer"=some (some (.int 3 tk))rc:∃tk,PySem.W.nsIn K a.fg "trial"=some (some (.int 6 tk))re:∃tk,PySem.W.nsIn K a.fg "share"=some (some (.int 3 tk))tN:∃tk,PySem.W.nsIn K a.fg "deal"=some (some (.int 4 tk))tM:∃tk,PySem.W.nsIn K a.fg "hold"=some (some (.int 3 tk))rf:∃tk,PySem.W.nsIn K a.fg "pause"=some (some (.int 2 tk))wX:∃tk,PySem.W.nsIn K a.fg "go"=some (some (.int 2 tk))rh:∃tk,PySem.W.nsIn K a.fg "close"=some (some (.int 2 tk))vg:∃tk,PySem.W.nsIn K a.fg "bar"=some (some (.int 3 tk))rb:∃tk,PySem.W.nsIn K a.fg "visit"=some (some (.int 3 tk))Hu:mg "HELD"=some (.ref a.vN)DI:L2.P5 K a.vN [.str "",.str ""]xB:mg "all"=none
 Hf:mg "any"=none
 He:mg "bool"=none
 Hd:mg "divmod"=none
 AT:mg "enumerate"=none
 Lr:mg "int"=none
 bx:mg "isinstance"=none
 bE:mg "len"=none
 Hc:mg "list"=none
 Oy:mg "max"=none
 Hb:mg "min"=none
 dP:mg "range"=none
 Cs:mg "reversed"=none
 G9:mg "set"=none
 AR:mg "sorted"=none
 Lq:mg "str"=none
 Ox:mg "sum"=none
 eF:mg "tuple"=none
 Ow:mg "zip"=none
def cY{N P:Sc}{h:Scope}(a:h.kind=.function:=by rfl)(b:h.isCoroutine=false:=by rfl)(c:h.isGenerator=false:=by rfl)(d:N.Nodup:=by decide+kernel)(e:N.take P.length=P:=by rfl)(f:∀x∈P,h.names.lookup x=some .local\/h.names.lookup x=some .cell:=by decide+kernel)(g:∀y∈h.names,y.2≠.free:=by decide+kernel):au N P h:=⟨a,b,c,d,e,f,g⟩
def yt:au ["house","trial","arm"] ["house","trial","arm"] (ai md):=cY
def Aj:au ["thing"] ["thing"] (ai om):=cY
abbrev lN:List Str:=["thing","signs","longest"]
def wm:au lN ["thing","signs","longest"] (ai iM):=cY
def B5:au ["thing"] ["thing"] (ai qF):=cY
def Am:au ["thing"] ["thing"] (ai oo):=cY
def Al:au ["thing"] ["thing"] (ai lr):=cY
def jL:au ["p","salt","guest","mixed","sign"] ["p","salt","guest"] (ai og):=cY
def yw:au ["thing"] ["thing"] (ai mf):=cY
def B8:au ["thing"] ["thing"] (ai qI):=cY
def yy:au ["thing"] ["thing"] (ai io):=cY
def l8:au ["thing","depth","kind"] ["thing","depth"] (ai ou):=cY
def hV:au ["rule","found","inner"] ["rule"] (ai lD):=cY
def Ai:au ["rule"] ["rule"] (ai lq):=cY
def B7:au ["thing"] ["thing"] (ai qH):=cY
abbrev pW:List Str:=["rule","marks","kind"]
def uy:au pW ["rule","marks"] (ai pf):=cY
def An:au ["thing"] ["thing"] (ai oq):=cY
def B6:au ["thing"] ["thing"] (ai qG):=cY
def Ak:au ["thing"] ["thing"] (ai on):=cY
def yu:au ["thing"] ["thing"] (ai me):=cY
abbrev iY:List Str:=["thing","many"]
def wx:au iY ["thing","many"] (ai iN):=cY
abbrev nL:List Str:=["thing","many"]
def uH:au nL ["thing","many"] (ai ic):=cY
def Ao:au ["thing"] ["thing"] (ai lC):=cY
def uE:au ["prime","salt"] ["prime","salt"] (ai kd):=cY
def wo:au ["thing"] ["thing"] (ai lu):=cY
def uF:au ["thing"] ["thing"] (ai ke):=cY
def uC:au ["thing"] ["thing"] (ai ka):=cY
def wq:au ["thing"] ["thing"] (ai lw):=cY
def yx:au ["thing","names"] ["thing","names"] (ai mh):=cY
def oZ:au ["thing","names"] ["thing","names"] (ai gw):=cY
def uD:au ["thing","names"] ["thing","names"] (ai kc):=cY
def uB:au ["thing","prime"] ["thing","prime"] (ai j9):=cY
abbrev ky:List Str:=["thing","prime","layers"]
def uA:au ky ["thing","prime","layers"] (ai ib):=cY
def ww:au ["thing"] ["thing"] (ai lB):=cY
def ja:au ["thing","trials","k","name"] ["thing","trials"] (ai j8):=cY
def uG:au ["thing"] ["thing"] (ai kf):=cY
def sW:au ["thing","many"] ["thing","many"] (ai jb):=cY
def qD:au ["total","weights","many"] ["total","weights","many"] (ai iC):=cY
def wu:au ["deed"] ["deed"] (ai lz):=cY
def uz:au ["deed","layers","trials"] ["deed","layers","trials"] (ai j7):=cY
def j5:au ["deed","trials","trial","many"] ["deed","trials"] (ai lx):=cY
def ny:au ["deed","prime","layers","trials","kind"] ["deed","prime","layers","trials"] (ai lA):=cY
def jM:au ["weights","given","best","k"] ["weights","given"] (ai oj):=cY
def oY:au ["total","weights","given","turn","k"] ["total","weights"] (ai yz):=cY
def l7:au ["p","slope","point","x","y"] ["p","slope","point"] (ai oh):=cY
def sY:au ["self","many"] ["self","many"] (ai jd):=cY
def o7:au ["self","place"] ["self","place"] (ai gx):=cY
def n9:au ["self","owner"] ["self","owner"] (ai f9):=cY
def wy:au ["self"] ["self"] (ai iP):=cY
abbrev iZ:List Str:=["self","wanted","more","back","owner","number"]
def c9:au iZ ["self","wanted"] (ai iO):=cY
def dJ:au ["self","owner","number","places","back","place"] ["self","owner","number"] (ai ga):=cY
def ia:au ["self","owner","number","places","more","place"] ["self","owner","number"] (ai lE):=cY
def sZ:au ["self","slope","many"] ["self","slope","many"] (ai je):=cY
def sX:au ["self","home","arms","rule","shuts"] ["self","home","arms","rule","shuts"] (ai jc):=cY
def tm:au ["self","prime","salt"] ["self","prime","salt"] (ai jh):=cY
def se:au ["self","deed","answer"] ["self","deed"] (ai oz):=cY
def nz:au ["self","deed","kind"] ["self","deed"] (ai lG):=cY
def pd:au ["self","name","slope"] ["self","name","slope"] (ai gC):=cY
def pb:au ["self","name","trial"] ["self","name","trial"] (ai gA):=cY
abbrev cQ:List Str:=["self","name","numbers","trial","layer","back","guests"]
def c6:au cQ ["self","name","numbers"] (ai dw):=cY
def qE:au ["self","name","number"] ["self","name","number"] (ai iE):=cY
def jN:au ["self","name","paused","trial"] ["self","name","paused"] (ai gB):=cY
def jO:au ["self","name","trial"] ["self","name"] (ai gD):=cY
def iB:au ["self","guest","name","trial","layer"] ["self","guest","name"] (ai jg):=cY
def cG:au ["self","guest","marks","answer","name","trial","arm","layer"] ["self","guest","marks"] (ai gz):=cY
def eW:au ["self","layer","guests","out","guest","seat"] ["self","layer","guests"] (ai iD):=cY
abbrev fu:List Str:=["self","guest","marks","been","answer","name","layer","seat"]
def bB:au fu ["self","guest","marks"] (ai dn):=cY
abbrev gO:List Str:=["self","layer","guest","marks","been","owner","trial"]
def f8:au gO ["self","layer","guest","marks","been"] (ai eX):=cY
def o9:au ["self","layer","guest"] ["self","layer","guest"] (ai gy):=cY
def uK:au ["self","layer","place"] ["self","layer","place"] (ai kh):=cY
def oa:au ["self","trial","arm"] ["self","trial","arm"] (ai gb):=cY
def tf:au ["self","trial","arm"] ["self","trial","arm"] (ai jf):=cY
def tj:au ["self"] ["self"] (ai gc):=cY
def uJ:au ["self"] ["self"] (ai kg):=cY
def Aq:au ["_law_script","_law_k"] ["_law_script","_law_k"] (ai oy):=cY
def kG:au ["_law_script","_law_k","_law_salt","_law_cell","_law_lap","_law_near"] ["_law_script","_law_k","_law_salt"] (ai uN):=cY
def o8:au ["_law_k","_law_number","_law_some","_law_stem","_law_at"] ["_law_k","_law_number"] (ai yA):=cY
def kI:au ["_law_k","_law_number","_law_some","_law_stem","_law_at","_law_own"] ["_law_k","_law_number"] (ai uO):=cY
def l9:au ["_law_number","_law_high","_law_way","_law_some","_law_word_here"] ["_law_number","_law_high"] (ai yB):=cY
abbrev vM:List Str:=["_law_number","_law_marks_here","_law_k","_law_word_here"]
def kH:au vM ["_law_number"] (ai ph):=cY
def uI:au ["_law_script","_law_number","_law_prime"] ["_law_script"] (ai yC):=cY
def j6:au ["_law_script","_law_plan_here","_law_k","_law_name"] ["_law_script","_law_plan_here"] (ai lF):=cY
abbrev lO:List Str:=["_law_script","_law_plan_here","_law_number","_law_k","_law_name","_law_layer","_law_arms_here","_law_shuts","_law_more","_law_j"]
def cM:au lO ["_law_script","_law_plan_here","_law_number"] (ai iQ):=cY
abbrev mK:List Str:=["_law_script","_law_plan_here","_law_k","_law_number","_law_trial","_law_most","_law_weights"]
def mQ:au mK ["_law_script","_law_plan_here","_law_k","_law_number"] (ai mi):=cY
def kJ:au ["_law_script","_law_plan_here","_law_k","_law_number","_law_some","_law_guest_here","_law_early","_law_trial"] ["_law_script","_law_plan_here","_law_k"] (ai yD):=cY
def Ez:au ["_law_p","_law_slope","_law_x","_law_y"] ["_law_p","_law_slope","_law_x","_law_y"] (ai uM):=cY
abbrev rR:List Str:=["_law_house","_law_name"]
def B9:au rR ["_law_house","_law_name"] (ai mR):=cY
abbrev zP:List Str:=["_law_script","_law_plan_here","_law_arms_here","_law_name","_law_many"]
def ma:au zP ["_law_script","_law_plan_here"] (ai tX):=cY
def Ap:au ["_law_house","_law_trial","_law_arm"] ["_law_house","_law_trial","_law_arm"] (ai ox):=cY
def du:au ["_law_script","_law_house","_law_plan_here","_law_p","_law_counts","_law_name","_law_slope","_law_owners_here","_law_x","_law_y","_law_owner","_law_arm","_law_found"] ["_law_script","_law_house","_law_plan_here"] (ai uL):=cY
def n8:au ["_law_script","_law_plan_here","_law_house","_law_many","_law_k","_law_refused_here"] ["_law_script"] (ai GE):=cY
variable{P:Sb}{w:World}{K:R7}{mg:R_}{base:Heap}{a:iK}{H H':Hp}
inductive Li{A0 A1:Type}(p:A0->A1->Prop):Prop|mk(x0:A0)(x1:A1)(h:p x0 x1)
inductive Pn{A0 A1 A2:Type}(p:A0->A1->A2->Prop):Prop|mk(x0:A0)(x1:A1)(x2:A2)(h:p x0 x1 x2)
inductive Ex4{A0 A1 A2 A3:Type}(p:A0->A1->A2->A3->Prop):Prop|mk(x0:A0)(x1:A1)(x2:A2)(x3:A3)(h:p x0 x1 x2 x3)
inductive Ex8{A0 A1 A2 A3 A4 A5 A6 A7:Type}(p:A0->A1->A2->A3->A4->A5->A6->A7->Prop):Prop|mk(x0:A0)(x1:A1)(x2:A2)(x3:A3)(x4:A4)(x5:A5)(x6:A6)(x7:A7)(h:p x0 x1 x2 x3 x4 x5 x6 x7)
structure An5(p0 p1 p2 p3 p4:Prop):Prop where
 h0:p0
 h1:p1
 h2:p2
 h3:p3
 h4:p4
structure O5(p0 p1 p2 p3 p4 p5 p6 p7 p8 p9:Prop):Prop where
 h0:p0
 h1:p1
 h2:p2
 h3:p3
 h4:p4
 h5:p5
 h6:p6
 h7:p7
 h8:p8
 h9:p9
structure P8(p0 p1 p2 p3 p4 p5 p6 p7 p8 p9 p10 p11:Prop):Prop where
 h0:p0
 h1:p1
 h2:p2
 h3:p3
 h4:p4
 h5:p5
 h6:p6
 h7:p7
 h8:p8
 h9:p9
 h10:p10
 h11:p11
structure P7(p0 p1 p2 p3 p4 p5 p6 p7 p8 p9 p10 p11 p12:Prop):Prop where
 h0:p0
 h1:p1
 h2:p2
 h3:p3
 h4:p4
 h5:p5
 h6:p6
 h7:p7
 h8:p8
 h9:p9
 h10:p10
 h11:p11
 h12:p12
@[irreducible]def xT(ns:Sh)(k:Int):Int:=if ns.length=0 then 0 else ns.getD (k%(ns.length:Int)).toNat 0
def OI(ns:Sh)(k:Int):Int:=k/(if(ns.length:Int)>1 then(ns.length:Int)else 1)
def G6(ns:Sh)(k m:Int):Int:=(Builtin.bitAnd (xT ns k) 2147483647+1009*k*k+7919*m*m+12)*48271%2147483647
@[irreducible]def bY(ns:Sh)(k m:Int):Int:=(xT ns k/2^(31*(m+128*OI ns k)).toNat+G6 ns k m*G6 ns k m%2147483629)%2147483648
def Km(ns:Sh)(k m:Int):0<=bY ns k m/\bY ns k m<2147483648:=by unfold bY;exact bu _ (by decide)
inductive Mi(K:R7)(vs:List V)(H:Hp)(Q:VK)(_E:XK):Prop|mk(a:Addr)(ns:Sh)(k:Int)(_:vs=[.ref a,.int k])(_:aX K H a (ns.map V.int))(_:ns.length<=63)(_:Q (.int (xT ns k)) H)
inductive JF(K:R7)(vs:List V)(H:Hp)(Q:VK)(_E:XK):Prop|mk(a:Addr)(ns:Sh)(k m:Int)(_:vs=[.ref a,.int k,.int m])(_:aX K H a (ns.map V.int))(_:ns.length<=63)(_:(0<=k/\k<=1000000))(_:(0<=m/\m<=1000000))(_:Q (.int (bY ns k m)) H)
inductive Ge(K:R7)(vs:List V)(H:Hp)(Q:VK)(_E:XK):Prop|mk(a:Addr)(ns:Sh)(_:vs=[.ref a])(_:aX K H a (ns.map V.int))(_:ns.length<=63)(_:∀H',Q (.bl true) H')
section
variable{P:Sb}{w:World}{K:R7}{mg:R_}{base:Heap}{a:iK}
def sr(T:Txt K mg a):aO P w K mg base dk 1 a.jv.x a.jv.d ["_law_script","_law_k"] (Mi K):=by
 refine T.jv.ok Aq λe A outer s H f Q E g h=>?_
 ·obtain⟨p,ns,k,rfl,b,i,q⟩:=h;refine⟨_,(ag (aJ (aE aS (ay (aH K rfl) (by rfl) T.bE L2.aI (ac (Y 0) O)) af (aF _)) (ah (ax af)) aC) (ah (ax (iX K (Y 0) (av aQ (Y 1) (ay (aH K rfl) (by rfl) T.bE L2.aI (ac (Y 0) O))))))),?_⟩
  refine U rfl ⟨_,ns.length,rfl,.inl ⟨_,b,by simp⟩,rfl,U rfl ?_⟩;unfold xT at q;refine kS (λh0=>?_) (λh0=>?_)
  ·rw[kw (by lia)]at q;exact q
  have c:(0:Int)<(ns.length:Int):=by lia
  have hm:=bu k c;rw[ku (by lia)]at q;exact U rfl (U rfl (U rfl ⟨_,ns.length,rfl,.inl ⟨_,b,by simp⟩,_,U rfl ⟨rfl,c,rX b (m7 hm.1 hm.2) q⟩⟩))
def cH(T:Txt K mg a):aO P w K mg base dk 2 a.dX.x a.dX.d ["_law_script","_law_k","_law_salt"] (JF K):=by
 refine T.dX.ok kG λi A outer s H v Q E j h=>?_
 ·obtain⟨p,ns,k,m,rfl,e,l,⟨o,y⟩,⟨z,B⟩,q⟩:=h;refine⟨_,(ag (bg 3 kG.nd (pc T.jv (sr T) j (ac (Y 0) (ac (Y 1) O)))) (ag (bg 4 kG.nd (av bF (Y 1) (ay (Fy rfl) (by rfl) T.Oy L2.IM (ac af (ac (ay (aH K rfl) (by rfl) T.bE L2.aI (ac (Y 0) O)) O))))) (ag (bg 5 kG.nd (av bG (av bG (av bG (av GY (Y 3) af) (av fE (av fE af (Y 1)) (Y 1))) (av fE (av fE af (Y 2)) (Y 2))) af)) (ag (bg 5 kG.nd (av aQ (av fE (Y 5) af) af)) (ah (ax (av GY (av bG (av MC (Y 3) (av fE af (av bG (Y 2) (av fE af (Y 4))))) (av aQ (av fE (Y 5) (Y 5)) af)) af))))))),?_⟩
  unfold bY G6 OI at q;refine U rfl (U rfl ⟨p,ns,k,rfl,e,l,?_⟩);generalize xT ns k=c at q⊢;have hn:∃n:Int,n=(if(ns.length:Int)>1 then(ns.length:Int)else 1)/\0<n/\n<1073741824:=(U rfl ⟨by split<;>lia,by split<;>lia⟩);obtain⟨n,f,r,n1⟩:=hn;rw[<-f]at q;refine U rfl (U rfl ⟨_,ns.length,rfl,.inl ⟨_,e,by simp⟩,_,U rfl ⟨_,n,rfl,by rw[f],⟨r,n1⟩,?_⟩⟩);have t:0<=k/n:=Int.ediv_nonneg o (by lia)
  try dsimp only
  generalize k/n=u at t q⊢;refine U rfl (r2 (U rfl (r2 ⟨.inl ⟨by decide,by decide⟩,U rfl (r2 ⟨.inr ⟨by lia,by lia⟩,_,U rfl ⟨rfl,U rfl (r2 ⟨.inl ⟨by decide,by decide⟩,U rfl (r2 ⟨.inr ⟨by lia,by lia⟩,_,U rfl ⟨rfl,r2 ?_⟩⟩)⟩)⟩⟩)⟩)));refine U rfl (r2 ⟨.inr ⟨by decide,by decide⟩,_,U rfl ⟨rfl,(by show(0:Int)<_;first|decide|lia),?_⟩⟩);have b:=bu ((Builtin.bitAnd c 2147483647+1009*k*k+7919*m*m+12)*48271) (show(0:Int)<2147483647 by decide)
  try dsimp only
  generalize(Builtin.bitAnd c 2147483647+1009*k*k+7919*m*m+12)*48271%2147483647=g at b q⊢;refine U rfl (U rfl (U rfl (r2 ⟨.inl ⟨by decide,by decide⟩,_,U rfl ⟨rfl,r2 ⟨.inl ⟨by decide,by decide⟩,_,U rfl ⟨rfl,(by show(0:Int)<=_;lia),U rfl (U rfl (r2 ⟨.inl ⟨by lia,by lia⟩,_,U rfl ⟨rfl,(by show(0:Int)<_;first|decide|lia),_,U rfl ⟨rfl,r2 ?_⟩⟩⟩))⟩⟩⟩⟩)))
  try dsimp only
  rw[MM];exact q
def EX(T:Txt K mg a)(s:Shared)(u:Value):BindsTo s a.law.d ⟨[u],[]⟩ [("_law_script",u)]:=by obtain⟨oc,i,kV,b,pm,j,c,ct,g,e,k,h⟩:=T.law.f.ex;rw[e];exact .of_eq rfl
def EW{p:Addr}{ns:Sh}(c:ns.length<=63)(d:aX K H p (ns.map V.int)):Ge K [.ref p] H (λv _=>v=.bl true) λ_ _ _=>False:=⟨p,ns,rfl,d,c,λ_=>rfl⟩
end
section
variable{j g:Type}{F G:j->g->Prop}{a c:List j}{b d:List g}
def Paired.mapM(h:Paired F a b)(f:∀x∈a,∀y,F x y->G x y):Paired G a b:=by induction h with|nil=>exact .nil|cons h _ e=>exact .cons (f _ mm _ h) (e λx m=>f x (k4 _ m))
def Paired.ex(h:Paired F a b):∀x∈a,∃y,F x y:=by induction h with|nil=>exactλx e=>(nomatch e)|cons h _ f=>
  intro x e;rcases pw.mp e with rfl|m
  ·exact⟨_,h⟩
  ·exact f x m
def Paired.at_(h:Paired F a b):∀(i:Nat)(x:j),a[i]?=some x->∃y,b[i]?=some y/\F x y:=by induction h with|nil=>exactλi x e=>(nomatch e)|cons h _ f=>intro i x e;cases i with|zero=>obtain rfl:=m_ e;exact⟨_,rfl,h⟩|succ i=>exact f i x e
def yG(h:Paired F a b):∀(i:Nat)(y:g),b[i]?=some y->∃x,a[i]?=some x/\F x y:=by induction h with|nil=>exactλi x e=>(nomatch e)|cons h _ f=>intro i x e;cases i with|zero=>obtain rfl:=m_ e;exact⟨_,rfl,h⟩|succ i=>exact f i x e
def Ce(h:Paired F a b)(k:Paired F c d):Paired F (a++c) (b++d):=by induction h with|nil=>exact k|cons h _ e=>exact .cons h e
end
inductive Ru where|any|has(w:Str)|least(w:Str)(n:Int)|not(q:Ru)|both(q r:Ru)|either(q r:Ru)
def Ru.hgt:Ru->Nat|.any=>1|.has _=>1|.least _ _=>1|.not q=>q.hgt+1|.both q r=>max q.hgt r.hgt+1|.either q r=>max q.hgt r.hgt+1
def Ru.hgt_pos:∀r:Ru,0<r.hgt|.any=>Nat.one_pos|.has _=>Nat.one_pos|.least _ _=>Nat.one_pos|.not _=>QK _|.both _ _=>QK _|.either _ _=>QK _
def OR(w:Str)(m:Str×Int):Bool:=decide (V.str m.1=V.str w)
def gF(w:Str)(n:Int)(m:Str×Int):Bool:=if decide (V.str m.1=V.str w)=true then decide (n<=m.2)else false
def Ru.sat(c:List (Str×Int)):Ru->Bool|.any=>true|.has w=>(c.map (OR w)).any id|.least w n=>(c.map (gF w n)).any id|.not q=>!q.sat c|.both q r=>if q.sat c=true then r.sat c else false|.either q r=>if q.sat c=true then true else r.sat c
inductive ff(K:R7)(H:Hp):Ru->V->Prop|any{a:Addr}:aW K H a [.str "any"]->ff K H .any (.ref a)|has{a:Addr}{w:Str}:aW K H a [.str "has",.str w]->ff K H (.has w) (.ref a)|least{a:Addr}{w:Str}{n:Int}:aW K H a [.str "least",.str w,.int n]->ff K H (.least w n) (.ref a)|not{a:Addr}{q:Ru}{v:V}:aW K H a [.str "not",v]->ff K H q v->ff K H (.not q) (.ref a)|both{a:Addr}{q r:Ru}{v u:V}:aW K H a [.str "both",v,u]->ff K H q v->ff K H r u->ff K H (.both q r) (.ref a)|either{a:Addr}{q r:Ru}{v u:V}:aW K H a [.str "either",v,u]->ff K H q v->ff K H r u->ff K H (.either q r) (.ref a)
def Nk(H H':Hp):Prop:=∀u b,H u=some (.tup b)->H' u=some (.tup b)
def Nk.sq{a:Addr}{d:List V}(e:Nk H H')(f:∀u o,(∃c,H u=some (.frz c o))->∃c,H' u=some (.frz c o))(h:aW K H a d):aW K H' a d:=by
 rcases h with h|h
 ·rcases h with h|h
  ·exact .inl (.inl (e _ _ h))
  ·exact .inl (.inr (f _ _ h))
 ·exact .inr h
structure Kp(H H':Hp):Prop where
 tp:Nk H H'
 fz:∀u o,(∃o',H u=some (.frz o' o))->∃o',H' u=some (.frz o' o)
def Kp.trans(a:Kp H d)(b:Kp d e):Kp H e:=⟨λu c h=>b.tp u c (a.tp u c h),λu o h=>b.fz u o (a.fz u o h)⟩
def Kp.of(h:am H H'):Kp H H':=⟨λu c e=>h u _ e,λu o⟨b,e⟩=>⟨b,h u _ e⟩⟩
theorem Kp.lst{a:Addr}{o:HO}{d:List V}(c:H a=some (.lst d)):Kp H (aA H a o):=⟨λu f h=>by rw[ak (λe=>by rw[e,c]at h;cases h)];exact h,λu o⟨b,h⟩=>⟨b,by rw[ak (λe=>by rw[e,c]at h;cases h)];exact h⟩⟩
def Kp.new{a:Addr}{o:HO}(hn:H a=none):Kp H (aA H a o):=.of (aj (am.refl H) hn)
def Kp.tq{a:Addr}{c:List V}(e:Kp H H')(h:aW K H a c):aW K H' a c:=e.tp.sq e.fz h
def ff.kp(e:Kp H H')(h:ff K H r v):ff K H' r v:=by induction h with|any h=>exact .any (e.tq h)|has h=>exact .has (e.tq h)|least h=>exact .least (e.tq h)|not h _ q=>exact .not (e.tq h) q|both h _ _ q r=>exact .both (e.tq h) q r|either h _ _ q r=>exact .either (e.tq h) q r
def tS(K:R7)(H:Hp)(d:List (Str×Int))(v:V):Prop:=∃a c,v=.ref a/\aW K H a c/\c.length=d.length/\∀(i:Nat)(m:Str×Int),d[i]?=some m->∃b,c[i]?=some (.ref b)/\aW K H b [.str m.1,.int m.2]
def tS.kp(e:Kp H H')(h:tS K H c v):tS K H' c v:=by obtain⟨a,d,h1,h2,h3,h4⟩:=h;exact⟨a,d,h1,e.tq h2,h3,λi m hm=>let⟨b,f,g⟩:=h4 i m hm;⟨b,f,e.tq g⟩⟩
def ui{c d:Type}{f:c->d}{l:List c}{i:Nat}{m:c}(h:l[i]?=some m):(l.take (i+1)).map f=(l.take i).map f++[f m]:=by rw[yl,h,k_];rfl
inductive kx(ws:Sc):Ru->Prop|any:kx ws .any|has{w:Str}:w∈ws->kx ws (.has w)|least{w:Str}{n:Int}:w∈ws->-c5<=n->n<=c5->kx ws (.least w n)|not{q:Ru}:kx ws q->kx ws (.not q)|both{q r:Ru}:kx ws q->kx ws r->kx ws (.both q r)|either{q r:Ru}:kx ws q->kx ws r->kx ws (.either q r)
def qy:(100:Int)<=c5:=by have:=xq;lia
def Ru.subs:Ru->List Ru|.any=>[.any]|.has w=>[.has w]|.least w n=>[.least w n]|.not q=>.not q::q.subs|.both q r=>.both q r::(q.subs++r.subs)|.either q r=>.either q r::(q.subs++r.subs)
def Ru.cnt(r:Ru):Nat:=r.subs.length
def Ru.words:Ru->List Str|.any=>[]|.has w=>[w]|.least w _=>[w]|.not q=>q.words|.both q r=>q.words++r.words|.either q r=>q.words++r.words
def Ru.word1:Ru->Option Str|.has w=>some w|.least w _=>some w|_=>none
theorem Ru.words_subs:∀r:Ru,r.subs.filterMap Ru.word1=r.words|.any=>rfl|.has _=>rfl|.least _ _=>rfl|.not q=>by show(Ru.not q::q.subs).filterMap Ru.word1=q.words;rw[QZ rfl,q.words_subs]|.both q r=>by show(Ru.both q r::(q.subs++r.subs)).filterMap Ru.word1=q.words++r.words;rw[QZ rfl,Rn,q.words_subs,r.words_subs]|.either q r=>by show(Ru.either q r::(q.subs++r.subs)).filterMap Ru.word1=q.words++r.words;rw[QZ rfl,Rn,q.words_subs,r.words_subs]
def Dy{a b:Nat}:2^a+2^b<=2^(max a b+1):=by have h1:2^a<=2^max a b:=O_ (by decide) (Rh _ _);have h2:2^b<=2^max a b:=O_ (by decide) (Q5 _ _);rw[Ra];lia
theorem Ru.cnt_lt:∀r:Ru,r.cnt+1<=2^r.hgt|.any=>f_ _|.has _=>f_ _|.least _ _=>f_ _|.not q=>by have h:=q.cnt_lt;show(q.subs.length+1)+1<=2^(q.hgt+1);unfold Ru.cnt at h;rw[Ra];have:=q.hgt_pos;have:2^1<=2^q.hgt:=O_ (by decide) this;lia|.both q r=>by have h1:=q.cnt_lt;have h2:=r.cnt_lt;show((q.subs++r.subs).length+1)+1<=2^(max q.hgt r.hgt+1);unfold Ru.cnt at h1 h2;rw[kt];have:=Dy (a:=q.hgt) (b:=r.hgt);lia|.either q r=>by have h1:=q.cnt_lt;have h2:=r.cnt_lt;show((q.subs++r.subs).length+1)+1<=2^(max q.hgt r.hgt+1);unfold Ru.cnt at h1 h2;rw[kt];have:=Dy (a:=q.hgt) (b:=r.hgt);lia
def Ru.words_le(r:Ru):r.words.length<=r.cnt:=by rw[<-r.words_subs];exact List.length_filterMap_le _ _
structure zO(s:Str)(m:Nat)(x:Str):Prop where
 lo:1<=x.length
 hi:x.length<=m
 cs:∀c∈x.cps.toList,c∈s.cps.toList
abbrev mD:Str:="abcdefghijklmnopqrstuvwxyz"
abbrev kr:Str:="abcdefghijklmnopqrstuvwxyz0123456789"
abbrev Wd:Str->Prop:=zO mD 12
abbrev DX:Str->Prop:=zO kr 24
def Hx(x:Str):x.cps.toList.length=x.length:=by show x.cps.toList.length=x.cps.size;simp
def GA:List Str:=["ab","ba","b","a","aab","abab","bab","aa","abb","baa","bb","soap"]
def Aa:Nat->Str|0=>""|1=>"soap"|2=>"upperlayer"|_=>"z"
def jK(N:Int):Str:=Aa (N%4).toNat
def BQ(N:Int):Int:=N/4%(((jK N).length:Int)+1)
def pF(k:Nat):Str:=⟨#[97+k]⟩
def uo(i:Nat):Str:=(GA[i]?).getD "a"
def EQ(z:Str)(i:Int)(c:Nat):Str:=Txt.slice z none (some i)++pF c++Txt.slice z (some i) none
def bU(k N:Int):Str:=if N/40%2=1 then uo ((k+N/80)%12).toNat else EQ (jK N) (BQ N) ((k+N/80)%26).toNat
def Nw(x:Str):Bool:=decide (1<=x.length)&&decide (x.length<=12)&&x.cps.toList.all λc=>decide (c∈mD.cps.toList)
def zV(h:Nw x=true):Wd x:=by unfold Nw at h;rw[o0,o0]at h;exact⟨rm h.1.1,rm h.1.2,λc hc=>rm (List.all_eq_true.mp h.2 c hc)⟩
def JX:∀i∈List.range 12,Nw (uo i)=true:=by decide+kernel
def Gx:∀i∈List.range 12,∀j∈List.range 12,uo i=uo j->i=j:=by decide+kernel
def MK:∀r∈List.range 4,∀i∈List.range 11,∀c∈List.range 26,Nw (EQ (Aa r) (i:Int) c)=true:=by decide+kernel
def Ei(r:Nat):(Aa r).length<=10:=by
 unfold Aa
 split<;>decide+kernel
def qA(N:Int):(jK N).length<=10:=Ei _
def Dm(N:Int):0<=BQ N/\BQ N<((jK N).length:Int)+1:=⟨I_ _ (by lia),z_ _ (by lia)⟩
def ue(k N:Int):Wd (bU k N):=by
 unfold bU;have b1:=bu (k+N/80) (show(0:Int)<12 by decide);have b2:=bu (k+N/80) (show(0:Int)<26 by decide);have b3:=bu N (show(0:Int)<4 by decide);have b4:=Dm N;have b5:=qA N
 split
 ·exact zV (JX _ (by rw[q_];lia))
 ·have:=MK (N%4).toNat (by rw[q_];lia) (BQ N).toNat (by rw[q_];lia) ((k+N/80)%26).toNat (by rw[q_];lia);rw[show(((BQ N).toNat:Nat):Int)=BQ N by lia]at this;exact zV this
def Kn(h:EQ z i c=EQ z i d):c=d:=by have h:((Txt.slice z none (some i)).cps++#[97+c]++(Txt.slice z (some i) none).cps)=((Txt.slice z none (some i)).cps++#[97+d]++(Txt.slice z (some i) none).cps):=tA Str.cps h;have h2:=tA Array.toList h;simp at h2;exact h2
def qv(hi:0<=i/\i<12)(c:0<=j/\j<12)(h:bU i N=bU j N):i=j:=by
 unfold bU at h
 split at h
 ·have:=Gx _ (by rw[q_];lia) _ (by rw[q_];lia) h;lia
 ·have:=Kn h;lia
def Hw:∀c∈List.range 26,we ("abcdefghijklmnopqrstuvwxyz":Str).cps.toList (c:Int)=some (97+c):=by decide+kernel
def F3:we [V.str "",V.str "soap",V.str "upperlayer",V.str "z"] (N%4)=some (V.str (jK N)):=by have h1:0<=N%4:=I_ _ (by decide);have h2:N%4<4:=z_ _ (by decide);unfold jK;rcases(by lia:N%4=0\/N%4=1\/N%4=2\/N%4=3)with e|e|e|e<;>rw[e]<;>rfl
def Gy:∀i∈List.range 12,we (GA.map V.str) (i:Int)=some (V.str (uo i)):=by intro i hi;rw[q_]at hi;rcases(by lia:i=0\/i=1\/i=2\/i=3\/i=4\/i=5\/i=6\/i=7\/i=8\/i=9\/i=10\/i=11)with rfl|rfl|rfl|rfl|rfl|rfl|rfl|rfl|rfl|rfl|rfl|rfl<;>rfl
inductive Js(vs:List V)(H:Hp)(Q:VK)(_E:XK):Prop|mk(k N:Int)(_:vs=[.int k,.int N])(_:∀H',am H H'->Q (.str (bU k N)) H')
local macro_rules|`(tactic|walk_at "a")=>`(tactic|(repeat(first|refine U rfl ?_|refine r2 ?_|refine⟨(rfl:fm _ _=true),?_⟩|refine⟨(show fh _ _ from cd rfl),?_⟩|refine⟨(show(0:Int)<_ by first|decide|lia),?_⟩|refine⟨(rfl:V.int 10=V.int 10),rfl,?_⟩)))
section
def px(T:Txt K mg a):aO P w K mg base dk 1 a.pX.x a.pX.d ["_law_k","_law_number"] Js:=by
 refine T.pX.ok o8 λp A outer s H z Q E B h=>?_
 ·obtain⟨k,N,rfl,q⟩:=h;refine⟨_,(ag (aJ (aE aS (av aQ (av bF (Y 1) af) af) af (aF _)) (ag (bg 2 o8.nd (bn (ac aB (ac aB (ac aB (ac aB (ac aB (ac aB (ac aB (ac aB (ac aB (ac aB (ac aB (ac aB O)))))))))))))) (ah (ax (iX K (Y 2) (av aQ (av bG (Y 0) (av bF (Y 1) af)) af))))) aC) (ag (bg 3 o8.nd (iX K (bn (ac aB (ac aB (ac aB (ac aB O))))) (av aQ (Y 1) af))) (ag (bg 4 o8.nd (av aQ (av bF (Y 1) af) (av bG (ay (aH K rfl) (by rfl) T.bE L2.aI (ac (Y 3) O)) af))) (ah (ax (av jl (av jl (gf yq (Y 3) iS (iR (Y 4))) (Au CT aB (av aQ (av bG (Y 0) (av bF (Y 1) af)) af) (λ_ _=>rfl))) (gf yq (Y 3) (iR (Y 4)) iS))))))),?_⟩
  have b1:=bu (k+N/80) (show(0:Int)<12 by decide);have b2:=bu (k+N/80) (show(0:Int)<26 by decide);have r:=qA N
  walk_at "a"
  refine kS (λf=>?_) (λf=>?_)
  ·have g:bU k N=uo ((k+N/80)%12).toNat:=kw f;refine⟨ls rfl,λl i=>?_⟩
   walk_at "a"
   have c:=Gy ((k+N/80)%12).toNat (by rw[q_];lia);rw[show((((k+N/80)%12).toNat:Nat):Int)=(k+N/80)%12 by lia]at c;refine⟨l,_,_,U rfl ⟨rfl,aX.of ae,c,?_⟩⟩;rw[<-g];exact q _ (aj (am.refl H) i)
  ·have g:bU k N=EQ (jK N) (BQ N) ((k+N/80)%26).toNat:=ku f;refine⟨ls rfl,λl i=>?_⟩;have n:=aj (o:=.lst [V.str "",V.str "soap",V.str "upperlayer",V.str "z"]) (am.refl H) i;have e:aA H l (.lst [V.str "",V.str "soap",V.str "upperlayer",V.str "z"]) l=some (.lst [V.str "",V.str "soap",V.str "upperlayer",V.str "z"]):=ae;generalize aA H l (.lst [V.str "",V.str "soap",V.str "upperlayer",V.str "z"])=C at n e⊢
   walk_at "a"
   refine⟨l,_,_,U rfl ⟨rfl,aX.of e,F3,aq ?_⟩⟩;have t:=Dm N;have u:=Txt.slice_le (jK N) none (some (BQ N));have v:=Txt.slice_le (jK N) (some (BQ N)) none
   walk_at "a"
   refine⟨_,(jK N).length,rfl,⟨c8 (by lia),rfl⟩,_,U rfl ⟨rfl,r2 ⟨(by show(0:Int)<_;lia),aq ?_⟩⟩⟩;have j:∀a b:Str,(a++b).length=a.length+b.length:=λa b=>by show(a.cps++b.cps).size=a.cps.size+b.cps.size;exact Array.size_append
   have y:(pF ((k+N/80)%26).toNat).length=1:=rfl;have c:=Hw ((k+N/80)%26).toNat (by rw[q_];lia);rw[show((((k+N/80)%26).toNat:Nat):Int)=(k+N/80)%26 by lia]at c;refine U rfl (U rfl ⟨BQ N,rfl,jK N,rfl,c8 (by lia),?_⟩)
   walk_at "a"
   refine⟨"abcdefghijklmnopqrstuvwxyz",_,97+((k+N/80)%26).toNat,rfl,rfl,c8 (by decide+kernel),c,_,pF ((k+N/80)%26).toNat,rfl,rfl,c8 (by lia),U rfl (U rfl ⟨BQ N,rfl,jK N,rfl,c8 (by lia),_,U rfl ⟨rfl,c8 (by rw[j];lia),?_⟩⟩)⟩;have m:Txt.slice (jK N) none (some (BQ N))++pF ((k+N/80)%26).toNat++Txt.slice (jK N) (some (BQ N)) none=bU k N:=by rw[g];rfl
   rw[m];exact q _ n
end
inductive Jt(K:R7)(vs:List V)(H:Hp)(Q:VK)(_E:XK):Prop|mk(z:_)(_:vs=[.int z])(_:Q (.bl true) H)
def xy(s:Str)(m:Nat)(x:Str):Bool:=decide (1<=x.length)&&(decide (x.length<=m)&&x.cps.toList.all λc=>decide (c∈s.cps.toList))
def zO.b{s:Str}{m:Nat}{x:Str}(h:zO s m x):xy s m x=true:=by unfold xy;rw[nn h.lo,nn h.hi];exact List.all_eq_true.mpr λc hc=>nn (h.cs c hc)
def BH(K:R7)(H:Hp)(v:V):Prop:=∃T,mI K H v (.type T)/\PySem.W.kitOne K (.type T) (.type "str")=some false
def xj(K:R7)(H:Hp)(v:V):Prop:=BH K H v\/∃x:Str,v=.str x/\x.length<=60/\xy mD 12 x=false
inductive F8(K:R7)(vs:List V)(H:Hp)(Q:VK)(_E:XK):Prop|mk(v:V)(s:Str)(m:Nat)(_:vs=[v,.str s,.int m])(_:((∃x:Str,v=.str x/\x.length<=60/\∀H',am H H'->Q (.bl (xy s m x)) H')\/(BH K H v/\Q (.bl false) H)))
inductive Pz(K:R7)(vs:List V)(H:Hp)(Q:VK)(_E:XK):Prop|mk(v:V)(_:vs=[v])(_:((∃x,v=.str x/\Wd x/\∀H',am H H'->Q (.bl true) H')\/(xj K H v/\∀H',am H H'->Q (.bl false) H')))
inductive Oe(vs:List V)(H:Hp)(Q:VK)(_E:XK):Prop|mk(x:_)(_:vs=[.str x])(_:DX x)(_:∀H',am H H'->Q (.bl true) H')
inductive Od(vs:List V)(H:Hp)(Q:VK)(_E:XK):Prop|mk(z:_)(_:vs=[.int z])(_:(-c5<=z/\z<=c5))(_:Q (.bl true) H)
inductive JM(vs:List V)(H:Hp)(Q:VK)(_E:XK):Prop|mk(z:_)(_:vs=[.int z])(_:0<=z)(_:Q (.bl true) H)
inductive Jv(vs:List V)(H:Hp)(Q:VK)(_E:XK):Prop|mk(z:_)(_:vs=[.int z])(_:(0<=z/\z<=1000))(_:Q (.bl true) H)
inductive F6(vs:List V)(H:Hp)(Q:VK)(_E:XK):Prop|mk(z:_)(_:vs=[.int z])(_:(1<=z/\z<=c5))(_:Q (.bl true) H)
def lg{Q:VK}{p:Prop}[Decidable p]{H:Hp}(h:p)(q:Q (.bl true) H):Q (.bl (decide p)) H:=by rw[nn h];exact q
section
def jR(T:Txt K mg a):aO P w K mg base dk 1 a.gk.x a.gk.d ["thing"] (Jt K):=by
 refine T.gk.ok Aj λb A outer s H c Q E e h=>?_
 ·obtain⟨z,rfl,k⟩:=h;refine⟨_,(ah (ax (cJ (ay (i3 K rfl) (by rfl) T.bx L2.aV (ac (Y 0) (ac (jP rfl T.Lr L2.BA) O))) (dA (GS (ay (i3 K rfl) (by rfl) T.bx L2.aV (ac (Y 0) (ac (jP rfl T.He L2.xV) O)))))))),?_⟩;refine U rfl ⟨_,"int",_,true,rfl,.int z,de (by decide+kernel),true,rfl,bD ?_⟩;exact U rfl ⟨_,"bool",_,false,rfl,.int z,de (by decide+kernel),false,rfl,k⟩
def nA(T:Txt K mg a):aO P w K mg base dk 1 a.fF.x a.fF.d ["thing","signs","longest"] (F8 K):=by
 refine T.fF.ok wm λf A outer s H l Q E n h=>?_
 ·obtain⟨v,g,m,rfl,h⟩:=h;refine⟨_,(ag (aJ (bT (aM K rfl (ay (i3 K rfl) (by rfl) T.bx L2.aV (ac (Y 0) (ac (jP rfl T.Lq L2.Bz) O))) (λ_=>rfl))) (ah (ax eD)) aC) (ah (ax (cJ (uT jQ jQ af (ay (aH K rfl) (by rfl) T.bE L2.aI (ac (Y 0) O)) (Y 2)) (dA (ay (i4 K rfl rfl) (by rfl) T.xB L2.kY (ac (wc lN ["sign"] [] [3] (ai iM) (cw 3) (GR (Y 0)) (λcl C s₀ H₀ ex=>⟨(qL lN ["sign"] 3),cr,(bX EG (Y 3) (Y 1) (by with_unfolding_all rfl))⟩)) O))))))),?_⟩
  rcases h with⟨x,rfl,o,q⟩|⟨⟨p,ty,j⟩,q⟩
  ·refine U rfl ⟨_,"str",_,true,rfl,.str x,de (by decide+kernel),true,rfl,bV ?_⟩;refine U rfl ⟨_,x.length,rfl,⟨by rw[lm];lia,rfl⟩,_,U rfl ⟨rfl,U rfl ?_⟩⟩;unfold xy at q;refine ko (λh1=>?_) (λh1=>?_)
   ·rw[nn (show 1<=x.length by omega),Bool.true_and]at q;refine U rfl (r2 (U rfl ?_));refine ko (λh2=>?_) (λh2=>?_)
    ·rw[nn (show x.length<=m by omega),Bool.true_and]at q;refine U rfl ⟨x,rfl,λD k=>?_⟩;have r:=Hx x;refine IC (K:=K) (z:=x) (λi b e=>b=((x.cps.toList.take i).map λc=>decide (c∈g.cps.toList)).map V.bl/\e=aA H D (.lst b)) ⟨rfl,rfl⟩ ?_ ?_
     ·rintro i c b e hc⟨rfl,rfl⟩;have hi:i<x.cps.toList.length:=(d_.mp hc).1;refine aq (j3 (bD ?_));refine U rfl (U rfl ⟨_,U rfl ⟨rfl,ae,?_,lf hi ⟨?_,?_⟩⟩⟩)
      ·rw[c_,c_,oe,lm];lia
      ·rw[StrLaws.found_one,yl,hc,k_,k_];rfl
      ·rw[fZ]
     ·rintro b e⟨rfl,rfl⟩;refine⟨D,_,rfl,aX.of ae,?_⟩;rw[mu (f_ _),List.all_map];exact q _ (aj (am.refl _) k)
    ·rw[no (show¬x.length<=m by omega),Bool.false_and]at q;exact q H (am.refl H)
   ·rw[no (show¬1<=x.length by omega),Bool.false_and]at q;exact U rfl (bV (q H (am.refl H)))
  ·exact U rfl ⟨_,"str",_,false,rfl,ty,j,false,rfl,bD q⟩
def gE(T:Txt K mg a):aO P w K mg base dk 2 a.dQ.x a.dQ.d ["thing"] (Pz K):=by
 refine T.dQ.ok B5 λe A outer s H g Q E f h=>?_
 ·obtain⟨v,rfl,h⟩:=h;refine⟨_,(ah (ax (pc T.fF (nA T) f (ac (Y 0) (ac (cB T.FD rfl) (ac (cB T.vC rfl) O)))))),?_⟩;refine U rfl ⟨v,_,12,rfl,?_⟩;rcases h with⟨x,rfl,c,q⟩|⟨h|⟨x,rfl,h1,h2⟩,q⟩
  ·exact .inl ⟨x,rfl,by have:=c.hi;omega,by rw[c.b];exact q⟩
  ·exact .inr ⟨h,q H (am.refl H)⟩
  ·exact .inl ⟨x,rfl,h1,by rw[h2];exact q⟩
def AI(T:Txt K mg a):aO P w K mg base dk 2 a.kW.x a.kW.d ["thing"] Oe:=by
 refine T.kW.ok Am λe A outer s H g Q E f h=>?_
 ·obtain⟨x,rfl,c,q⟩:=h;refine⟨_,(ah (ax (pc T.fF (nA T) f (ac (Y 0) (ac (cB T.nJ rfl) (ac (cB T.tR rfl) O)))))),?_⟩;exact U rfl ⟨.str x,_,24,rfl,.inl ⟨x,rfl,by have:=c.hi;omega,by rw[c.b];exact q⟩⟩
def pk(T:Txt K mg a):aO P w K mg base dk 2 a.fb.x a.fb.d ["thing"] Od:=by
 refine T.fb.ok yw λb A outer s H e Q E c h=>?_
 ·obtain⟨z,rfl,⟨h1,h2⟩,q⟩:=h;refine⟨_,(ah (ax (cJ (pc T.gk (jR T) c (ac (Y 0) O)) (dA (uT jQ jQ (Oq LQ (av uU af af)) (Y 0) (av uU af af)))))),?_⟩;refine U rfl ⟨z,rfl,U rfl (bD ?_)⟩
  walk_at "a"
  refine ko (λ_=>?_) (λh=>absurd h1 h)
  walk_at "a"
  exact lg h2 q
def fK(T:Txt K mg a):aO P w K mg base dk 2 a.eM.x a.eM.d ["thing"] JM:=by
 refine T.eM.ok An λb A outer s H e Q E c h=>?_
 ·obtain⟨z,rfl,h1,q⟩:=h;refine⟨_,(ah (ax (cJ (pc T.gk (jR T) c (ac (Y 0) O)) (dA (bX GX (Y 0) af (aF _)))))),?_⟩;refine U rfl ⟨z,rfl,U rfl (bD ?_)⟩
  walk_at "a"
  exact lg h1 q
def AG(T:Txt K mg a):aO P w K mg base dk 3 a.kT.x a.kT.d ["thing"] Jv:=by
 refine T.kT.ok Ak λb A outer s H e Q E c h=>?_
 ·obtain⟨z,rfl,⟨h1,h2⟩,q⟩:=h;refine⟨_,(ah (ax (cJ (pc T.eM (fK T) c (ac (Y 0) O)) (dA (bX jQ (Y 0) (cB T.zD rfl) (aF _)))))),?_⟩;refine U rfl ⟨z,rfl,h1,U rfl (bD ?_)⟩
  walk_at "a"
  exact lg h2 q
def yK(T:Txt K mg a):aO P w K mg base dk 2 a.i0.x a.i0.d ["thing"] F6:=by
 refine T.i0.ok yu λb A outer s H e Q E c h=>?_
 ·obtain⟨z,rfl,⟨h1,h2⟩,q⟩:=h;refine⟨_,(ah (ax (cJ (pc T.gk (jR T) c (ac (Y 0) O)) (dA (uT jQ jQ af (Y 0) (av uU af af)))))),?_⟩;refine U rfl ⟨z,rfl,U rfl (bD ?_)⟩
  walk_at "a"
  refine ko (λ_=>?_) (λh=>absurd h1 h)
  walk_at "a"
  exact lg h2 q
end
inductive Mb(K:R7)(vs:List V)(H:Hp)(Q:VK)(_E:XK):Prop|mk(b:Addr)(m:Str×Int)(_:vs=[.ref b])(_:aW K H b [.str m.1,.int m.2])(_:Wd m.1)(_:(-c5<=m.2/\m.2<=c5))(_:∀H',am H H'->Q (.bl true) H')
inductive JG(K:R7)(vs:List V)(H:Hp)(Q:VK)(_E:XK):Prop|mk(v:V)(l:List (Str×Int))(_:vs=[v])(_:tS K H l v)(_:(∀m∈l,Wd m.1/\-c5<=m.2/\m.2<=c5))(_:(l.map Prod.fst).Nodup)(_:l.length<=8)(_:∀H',am H H'->Q (.bl true) H')
inductive Gi(K:R7)(vs:List V)(H:Hp)(Q:VK)(_E:XK):Prop|mk(p:Addr)(l:Sh)(_:vs=[.ref p,.int (l.length:Nat)])(_:aW K H p (l.map V.int))(_:(∀i∈l,0<=i))(_:l.length<=100)(_:∀H',am H H'->Q (.bl true) H')
inductive Ek(K:R7)(vs:List V)(H:Hp)(Q:VK)(_E:XK):Prop|mk(p:Addr)(l:Sh)(_:vs=[.ref p,.int (l.length:Nat)])(_:aW K H p (l.map V.int))(_:(∀i∈l,1<=i/\i<=c5))(_:l.length<=100)(_:∀H',am H H'->Q (.bl true) H')
inductive Ml(K:R7)(vs:List V)(H:Hp)(Q:VK)(_E:XK):Prop|mk(p:Addr)(l:Sc)(_:vs=[.ref p])(_:aW K H p (l.map V.str))(_:(∀w∈l,Wd w))(_:l.Nodup)(_:1<=l.length)(_:l.length<=4)(_:∀H',am H H'->Q (.bl true) H')
def i6(i:Nat):(List.replicate i true).map V.bl++[V.bl true]=(List.replicate (i+1) true).map V.bl:=by rw[List.replicate_succ',k_];rfl
def kE(n:Nat):(List.replicate n true).all id=true:=by simp
def kD(i:Nat)(h:i<=1000):((List.replicate i true).map V.bl).length<sizeLine:=by rw[c_,Qr,lm];lia
def yS{c d:Type}{f:c->d}{l:List c}{i:Nat}{v:d}(h:(l.map f)[i]?=some v):∃x,l[i]?=some x/\v=f x/\x∈l:=by rw[j_]at h;cases e:l[i]?with|none=>rw[e]at h;cases h|some x=>rw[e]at h;cases h;exact⟨x,rfl,rfl,i_ e⟩
def xF(l:Sc):(l.map (Sum.inr:Str->cg)).map kV=l.map V.str:=by rw[w1];rfl
def Bh{l:Sc}(h:l.Nodup):(dd (l.map (Sum.inr:Str->cg))).length=l.length:=by have:=(Nc (l.map (Sum.inr:Str->cg))).mpr (h.map _ (λa b h e=>h (sT e)));rw[this,c_]
section
def Ck(T:Txt K mg a):aO P w K mg base dk 3 a.m6.x a.m6.d ["thing"] (Mb K):=by
 refine T.m6.ok B8 λg A outer s H j Q E e h=>?_
 ·obtain⟨b,m,rfl,c,h1,h2,q⟩:=h;refine⟨_,(ah (ax (cJ (ay (eS K rfl) (by rfl) T.bx L2.aV (ac (Y 0) (ac (jP rfl T.eF L2.bZ) O))) (cJ (bX aS (ay (aH K rfl) (by rfl) T.bE L2.aI (ac (Y 0) O)) af (aF _)) (cJ (pc T.dQ (gE T) e (ac (df K (Y 0) af) O)) (dA (pc T.fb (pk T) e (ac (df K (Y 0) af) O)))))))),?_⟩;refine U rfl ⟨_,"tuple",_,true,rfl,.inr ⟨b,U rfl ⟨c,rfl⟩⟩,de (by decide+kernel),true,rfl,bD ?_⟩;refine U rfl ⟨_,2,rfl,.inr ⟨_,c,rfl⟩,rfl,U rfl (bD ?_)⟩;refine U rfl (rX c rfl ⟨V.str m.1,rfl,.inl ⟨m.1,rfl,h1,λi f=>(U rfl (bD ?_))⟩⟩);exact U rfl (rX (am.tseq f c) rfl ⟨m.2,rfl,h2,q i f⟩)
def yL(T:Txt K mg a):aO P w K mg base dk 4 a.i5.x a.i5.d ["thing"] (JG K):=by
 refine T.i5.ok yy λW A outer s H g Q E X h=>?_
 ·obtain⟨v,l,rfl,Z,h1,h2,h3,q⟩:=h;obtain⟨p,g,rfl,j,B,y⟩:=Z;refine⟨_,(ag (aJ (PW.pt (eC (bT (aM K rfl (ay (eS K rfl) (by rfl) T.bx L2.aV (ac (Y 0) (ac (jP rfl T.eF L2.bZ) O))) (λ_=>rfl))) (db (aE sf (ay (aH K rfl) (by rfl) T.bE L2.aI (ac (Y 0) O)) (cB T.zG rfl) (aF _))))) (ah (ax eD)) aC) (ag (aJ (bT (aM K rfl (ay (i4 K rfl rfl) (by rfl) T.xB L2.kY (ac (wc ["thing"] ["mark"] [] [1] (ai io) (cw 1) (iV K rfl (Y 0)) (λcl C s₀ H₀ ex=>⟨(qL ["thing"] ["mark"] 1),cr,(pc T.m6 (Ck T) X (ac (Y 1) O))⟩)) O)) (λ_=>rfl))) (ah (ax eD)) aC) (ah (ax (bX aS (ay (vB (P:=P) (w:=w)) (by rfl) T.bE L2.aI (ac (et (Fx (P:=P) (w:=w) K rfl rfl) (by rfl) T.G9 L2.vE (ac (wc ["thing"] ["mark"] [] [1] (ai io) (cw 1) (iV K rfl (Y 0)) (λcl C s₀ H₀ ex=>⟨(qL ["thing"] ["mark"] 1),cr,(df K (Y 1) af)⟩)) O)) O)) (ay (aH K rfl) (by rfl) T.bE L2.aI (ac (Y 0) O)) (aF _)))))),?_⟩
  refine U rfl ⟨_,"tuple",_,true,rfl,.inr ⟨p,U rfl ⟨j,rfl⟩⟩,de (by decide+kernel),true,rfl,bV ?_⟩;refine U rfl ⟨_,g.length,rfl,.inr ⟨_,j,rfl⟩,_,U rfl ⟨rfl,U rfl (ko (λh=>absurd h (by lia)) (λ_=>?_))⟩⟩;refine U rfl ⟨p,rfl,⟨_,j⟩,λD L=>?_⟩;refine iy (K:=K) (a:=p) (xs:=g) (λi c H'=>c=(List.replicate i true).map V.bl/\am H H'/\H' D=some (.lst c)) ⟨rfl,aj (am.refl _) L,ae⟩ (λi c H' _ h=>am.tseq h.2.1 j) ?_ ?_
  ·rintro i v c M k⟨rfl,n,r⟩;have hi:i<g.length:=(d_.mp k).1;have e:l[i]?=some (l[i]'(by lia)):=h_ (by lia);generalize l[i]'(by lia)=m at e;obtain⟨b,F,G⟩:=y i m e;rw[F]at k;cases k;have hm:=h1 m (i_ e);refine aq (j3 (bD (U rfl ⟨b,m,rfl,am.tseq n G,hm.1,hm.2,λI t=>⟨t _ _ r,kD i (by lia),lf hi ⟨i6 i,bR (n.trans t) L,ae⟩⟩⟩)))
  ·rintro c M⟨rfl,n,r⟩;refine⟨D,_,rfl,aX.of r,_,rfl,?_⟩;rw[kE];refine bV (U rfl ⟨p,rfl,⟨_,am.tseq n j⟩,λN z=>?_⟩);refine iy (K:=K) (a:=p) (xs:=g) (λi c H'=>c=((l.take i).map Prod.fst).map V.str/\am M H'/\H' N=some (.lst c)) ⟨by rw[P9];rfl,aj (am.refl _) z,ae⟩ (λi c H' _ h=>am.tseq (n.trans h.2.1) j) ?_ ?_
   ·rintro i v c I k⟨rfl,t,f⟩;have hi:i<g.length:=(d_.mp k).1;have e:l[i]?=some (l[i]'(by lia)):=h_ (by lia);generalize l[i]'(by lia)=m at e;obtain⟨b,F,G⟩:=y i m e;rw[F]at k;cases k;refine aq (j3 (bD (U rfl (rX (am.tseq (n.trans t) G) rfl ⟨f,?_,lf hi ⟨?_,bR t z,ae⟩⟩))))
    ·rw[c_,c_,oe,lm];lia
    ·rw[ui e,k_];rfl
   ·rintro c I⟨rfl,t,f⟩;rw[mu (by lia),<-xF]at f;have u:=Bh h2;rw[c_]at u;refine⟨N,(l.map Prod.fst).map Sum.inr,rfl,aX.of f,by rw[c_,c_];lia,λR J=>?_⟩;refine⟨R,_,U rfl ⟨ae,by rw[u];lia,?_⟩⟩;have S:∀o,am H (aA I R o):=λo=>aj (n.trans t) J;refine U rfl ⟨_,g.length,rfl,.inr ⟨_,am.tseq (S _) j,rfl⟩,rfl,?_⟩;rw[u,<-B,nn rfl];exact q _ (S _)
def wG(T:Txt K mg a):aO P w K mg base dk 3 a.gN.x a.gN.d ["thing","many"] (Gi K):=by
 refine T.gN.ok wx λk A outer s H t Q E m h=>?_
 ·obtain⟨p,l,rfl,e,h1,h2,q⟩:=h;refine⟨_,(ah (ax (cJ (ay (eS K rfl) (by rfl) T.bx L2.aV (ac (Y 0) (ac (jP rfl T.eF L2.bZ) O))) (cJ (bX aS (ay (aH K rfl) (by rfl) T.bE L2.aI (ac (Y 0) O)) (Y 1) (aF _)) (dA (ay (i4 K rfl rfl) (by rfl) T.xB L2.kY (ac (wc iY ["number"] [] [2] (ai iN) (cw 2) (iV K rfl (Y 0)) (λcl C s₀ H₀ ex=>⟨(qL iY ["number"] 2),cr,(pc T.eM (fK T) m (ac (Y 2) O))⟩)) O))))))),?_⟩
  refine U rfl ⟨_,"tuple",_,true,rfl,.inr ⟨p,U rfl ⟨e,rfl⟩⟩,de (by decide+kernel),true,rfl,bD ?_⟩;refine U rfl ⟨_,l.length,rfl,.inr ⟨_,e,by simp⟩,U rfl ⟨rfl,U rfl ?_⟩⟩;rw[nn rfl];refine bD (U rfl ⟨p,rfl,⟨_,e⟩,λD g=>?_⟩);refine iy (K:=K) (a:=p) (xs:=l.map V.int) (λi b H'=>b=(List.replicate i true).map V.bl/\am H H'/\H' D=some (.lst b)) ⟨rfl,aj (am.refl _) g,ae⟩ (λi b H' _ h=>am.tseq h.2.1 e) ?_ ?_
  ·rintro i v b n j⟨rfl,f,c⟩;have hi:=(d_.mp j).1;obtain⟨z,_,rfl,o⟩:=yS j;have r:i<l.length:=by simpa using hi
   exact aq (j3 (bD (U rfl ⟨z,rfl,h1 z o,c,kD i (by lia),lf hi ⟨i6 i,bR f g,ae⟩⟩)))
  ·rintro b n⟨rfl,f,c⟩;refine⟨D,_,rfl,aX.of c,?_⟩;rw[kE];exact q _ f
def u4(T:Txt K mg a):aO P w K mg base dk 3 a.fU.x a.fU.d ["thing","many"] (Ek K):=by
 refine T.fU.ok uH λk A outer s H t Q E m h=>?_
 ·obtain⟨p,l,rfl,e,h1,h2,q⟩:=h;refine⟨_,(ah (ax (cJ (ay (eS K rfl) (by rfl) T.bx L2.aV (ac (Y 0) (ac (jP rfl T.eF L2.bZ) O))) (cJ (bX aS (ay (aH K rfl) (by rfl) T.bE L2.aI (ac (Y 0) O)) (Y 1) (aF _)) (dA (ay (i4 K rfl rfl) (by rfl) T.xB L2.kY (ac (wc nL ["number"] [] [2] (ai ic) (cw 2) (iV K rfl (Y 0)) (λcl C s₀ H₀ ex=>⟨(qL iY ["number"] 2),cr,(pc T.i0 (yK T) m (ac (Y 2) O))⟩)) O))))))),?_⟩
  refine U rfl ⟨_,"tuple",_,true,rfl,.inr ⟨p,U rfl ⟨e,rfl⟩⟩,de (by decide+kernel),true,rfl,bD ?_⟩;refine U rfl ⟨_,l.length,rfl,.inr ⟨_,e,by simp⟩,U rfl ⟨rfl,U rfl ?_⟩⟩;rw[nn rfl];refine bD (U rfl ⟨p,rfl,⟨_,e⟩,λD g=>?_⟩);refine iy (K:=K) (a:=p) (xs:=l.map V.int) (λi b H'=>b=(List.replicate i true).map V.bl/\am H H'/\H' D=some (.lst b)) ⟨rfl,aj (am.refl _) g,ae⟩ (λi b H' _ h=>am.tseq h.2.1 e) ?_ ?_
  ·rintro i v b n j⟨rfl,f,c⟩;have hi:=(d_.mp j).1;obtain⟨z,_,rfl,o⟩:=yS j;have r:i<l.length:=by simpa using hi
   exact aq (j3 (bD (U rfl ⟨z,rfl,h1 z o,c,kD i (by lia),lf hi ⟨i6 i,bR f g,ae⟩⟩)))
  ·rintro b n⟨rfl,f,c⟩;refine⟨D,_,rfl,aX.of c,?_⟩;rw[kE];exact q _ f
def AK(T:Txt K mg a):aO P w K mg base dk 3 a.kZ.x a.kZ.d ["thing"] (Ml K):=by
 refine T.kZ.ok Ao λB A outer s H J Q E F h=>?_
 ·obtain⟨p,l,rfl,e,h1,h2,h3,h4,q⟩:=h;refine⟨_,(ag (aJ (PW.pt (eC (bT (aM K rfl (ay (eS K rfl) (by rfl) T.bx L2.aV (ac (Y 0) (ac (jP rfl T.eF L2.bZ) O))) (λ_=>rfl))) (db (bT (As jQ jQ af (ay (aH K rfl) (by rfl) T.bE L2.aI (ac (Y 0) O)) (cB T.By rfl)))))) (ah (ax eD)) aC) (ah (ax (cJ (ay (i4 K rfl rfl) (by rfl) T.xB L2.kY (ac (wc ["thing"] ["arm"] [] [1] (ai lC) (cw 1) (iV K rfl (Y 0)) (λcl C s₀ H₀ ex=>⟨(qL ["thing"] ["arm"] 1),cr,(pc T.dQ (gE T) F (ac (Y 1) O))⟩)) O)) (dA (bX aS (ay (vB (P:=P) (w:=w)) (by rfl) T.bE L2.aI (ac (et (Di (P:=P) (w:=w) K rfl rfl) (by rfl) T.G9 L2.vE (ac (Y 0) O)) O)) (ay (aH K rfl) (by rfl) T.bE L2.aI (ac (Y 0) O)) (aF _))))))),?_⟩
  refine U rfl ⟨_,"tuple",_,true,rfl,.inr ⟨p,U rfl ⟨e,rfl⟩⟩,de (by decide+kernel),true,rfl,bV ?_⟩;have f:l.length=(l.map V.str).length:=by simp
  refine U rfl ⟨_,l.length,rfl,.inr ⟨_,e,f⟩,_,U rfl ⟨rfl,U rfl (ko (λ_=>?_) (λh=>absurd (by exact Int.ofNat_le.mpr h3) h))⟩⟩;refine r2 (U rfl ?_);show if(!decide ((l.length:Int)<=4))=true then _ else _
  rw[nn (show(l.length:Int)<=4 by exact Int.ofNat_le.mpr h4)];refine bV ?_;refine U rfl ⟨p,rfl,⟨_,e⟩,λD m=>?_⟩;refine iy (K:=K) (a:=p) (xs:=l.map V.str) (λi b H'=>b=(List.replicate i true).map V.bl/\am H H'/\H' D=some (.lst b)) ⟨rfl,aj (am.refl _) m,ae⟩ (λi b H' _ h=>am.tseq h.2.1 e) ?_ ?_
  ·rintro i v b n r⟨rfl,j,c⟩;have hi:=(d_.mp r).1;obtain⟨z,_,rfl,G⟩:=yS r;have I:i<l.length:=by simpa using hi
   exact aq (j3 (bD (U rfl ⟨V.str z,rfl,.inl ⟨z,rfl,h1 z G,λM t=>⟨t _ _ c,kD i (by omega),lf hi ⟨i6 i,bR (j.trans t) m,ae⟩⟩⟩⟩)))
  ·rintro b n⟨rfl,j,c⟩;refine⟨D,_,rfl,aX.of c,_,rfl,?_⟩;rw[kE];have g:=Bh h2;refine bD (U rfl ⟨p,l.map Sum.inr,rfl,by rw[xF];exact am.tseq j e,by rw[c_];lia,λu k=>?_⟩);refine⟨u,_,U rfl ⟨ae,by rw[g];lia,?_⟩⟩;have y:∀o,am H (aA n u o):=λo=>aj j k;refine U rfl ⟨_,l.length,rfl,.inr ⟨_,am.tseq (y _) e,f⟩,rfl,?_⟩;rw[g,nn rfl];exact q _ (y _)
end
def tV{A B:Prop}{x y:Str}(h:x≠y)(b:B):if decide (V.str x=V.str y)=true then A else B:=HK (λe=>absurd e h) (λ_=>b)
def bW{A B:Prop}{x:Str}(a:A):if decide (V.str x=V.str x)=true then A else B:=HK (λ_=>a) (λh=>absurd rfl h)
def wn{A B:Prop}{x y:Str}(b:B)(h:x≠y:=by first|decide+kernel|(dsimp only[Ru.kind];decide+kernel)):if decide (V.str x=V.str y)=true then A else B:=tV h b
abbrev jq(K:R7)(H:Hp):List Ru->List V->Prop:=Paired (ff K H)
theorem jq.kp(e:Kp H H')(h:jq K H c d):jq K H' c d:=Paired.mapP h λ_ _ q=>q.kp e
def jq.app(h:jq K H c d)(k:jq K H e f):jq K H (c++e) (d++f):=Ce h k
def jq.get(h:jq K H c d)(i:Nat)(v:V)(e:d[i]?=some v):∃r,c[i]?=some r/\ff K H r v:=yG h i v e
def Ru.kids:Ru->List Ru|.not q=>[q]|.both q r=>[q,r]|.either q r=>[q,r]|_=>[]
def Ru.kind:Ru->Str|.any=>"any"|.has _=>"has"|.least _ _=>"least"|.not _=>"not"|.both _ _=>"both"|.either _ _=>"either"
def Ru.deep:Ru->Bool|.not _=>true|.both _ _=>true|.either _ _=>true|_=>false
def Ru.subs_kids(r:Ru):r.subs=r::(r.kids.map Ru.subs).flatten:=by cases r<;>simp[Ru.subs,Ru.kids]
def ff.tup(h:ff K H r v):∃t c,v=.ref t/\aW K H t (.str r.kind::c)/\(r.deep=true->jq K H r.kids c/\c≠[])/\(∀w,r.word1=some w->∃d,c=.str w::d):=by cases h with|any h=>exact⟨_,_,rfl,h,λe=>(nomatch e),λw e=>(nomatch e)⟩|has h=>exact⟨_,_,rfl,h,λe=>(nomatch e),λw e=>by cases e;exact⟨_,rfl⟩⟩|least h=>exact⟨_,_,rfl,h,λe=>(nomatch e),λw e=>by cases e;exact⟨_,rfl⟩⟩|not h q=>exact⟨_,U rfl ⟨h,λ_=>⟨.cons q .nil,nofun⟩,λw e=>(nomatch e)⟩⟩|both h q r=>exact⟨_,U rfl ⟨h,λ_=>⟨.cons q (.cons r .nil),nofun⟩,λw e=>(nomatch e)⟩⟩|either h q r=>exact⟨_,U rfl ⟨h,λ_=>⟨.cons q (.cons r .nil),nofun⟩,λw e=>(nomatch e)⟩⟩
def KN(r:Ru):nj (.str r.kind) [.str "not",.str "both",.str "either"]=r.deep:=by cases r with|any=>exact(show nj (.str "any") [.str "not",.str "both",.str "either"]=false by decide+kernel)|has _=>exact(show nj (.str "has") [.str "not",.str "both",.str "either"]=false by decide+kernel)|least _ _=>exact(show nj (.str "least") [.str "not",.str "both",.str "either"]=false by decide+kernel)|not _=>exact(show nj (.str "not") [.str "not",.str "both",.str "either"]=true by decide+kernel)|both _ _=>exact(show nj (.str "both") [.str "not",.str "both",.str "either"]=true by decide+kernel)|either _ _=>exact(show nj (.str "either") [.str "not",.str "both",.str "either"]=true by decide+kernel)
def KM(r:Ru):nj (.str r.kind) [.str "has",.str "least"]=r.word1.isSome:=by cases r with|any=>exact(show nj (.str "any") [.str "has",.str "least"]=false by decide+kernel)|has _=>exact(show nj (.str "has") [.str "has",.str "least"]=true by decide+kernel)|least _ _=>exact(show nj (.str "least") [.str "has",.str "least"]=true by decide+kernel)|not _=>exact(show nj (.str "not") [.str "has",.str "least"]=false by decide+kernel)|both _ _=>exact(show nj (.str "both") [.str "has",.str "least"]=false by decide+kernel)|either _ _=>exact(show nj (.str "either") [.str "has",.str "least"]=false by decide+kernel)
def KH{r k:Ru}{n:Nat}(h:k∈r.kids)(hh:r.hgt<=n+1):k.hgt<=n:=by
 cases r with|any=>cases h|has _=>cases h|least _ _=>cases h|not q=>
  have:k=q:=by simpa[Ru.kids]using h
  have hh:q.hgt+1<=n+1:=hh;rw[this];exact RH hh|both q r=>
  have:k=q\/k=r:=by simpa[Ru.kids]using h
  have hh:max q.hgt r.hgt+1<=n+1:=hh;have h1:=Rh q.hgt r.hgt;have h2:=Q5 q.hgt r.hgt;rcases this with rfl|rfl<;>lia|either q r=>
  have:k=q\/k=r:=by simpa[Ru.kids]using h
  have hh:max q.hgt r.hgt+1<=n+1:=hh;have h1:=Rh q.hgt r.hgt;have h2:=Q5 q.hgt r.hgt;rcases this with rfl|rfl<;>lia
def Iy(x:V)(c:List V):HT.ie (x::c).length 0 (some 1)=1:=by show(if(1:Int)<0 then((1:Int)+((x::c).length:Int)).toNat else min (1:Int).toNat (c.length+1))=1;rw[ku (by decide)];show min 1 (c.length+1)=1;lia
def KZ(x:V)(c:List V):¬HT.ie (x::c).length 0 (some 1)=0:=by rw[Iy];decide
def Ix(x:V)(c:List V):xb (x::c) (some 1) none=c:=by unfold xb;rw[Iy,HT.GF];show c.take ((c.length+1)-1)=c;rw[Nat.add_sub_cancel,mu (f_ _)]
inductive F5(K:R7)(h:Nat)(vs:List V)(H:Hp)(Q:VK)(_E:XK):Prop|mk(r:Ru)(rv:V)(_:vs=[rv])(_:ff K H r rv)(_:r.hgt<=h)(_:h<=6)(_:∀(l:Addr)(us:List V)(H':Hp),am H H'->H l=none->H' l=some (.lst us)->jq K H' r.subs us->Q (.ref l) H')
section
theorem km(T:Txt K mg a):∀h:Nat,aO P w K mg base dk (h+1) a.bQ.x a.bQ.d ["rule"] (F5 K h)
 |0=>by
  refine T.bQ.f.ok hV (λe H Q E h=>?_) (λZ A outer s H e Q E hr h=>?_)
  ·obtain⟨r,rv,rfl,_⟩:=h;rfl
  ·obtain⟨r,rv,rfl,_,hh,_⟩:=h;have:=r.hgt_pos;lia|n+1=>by
  have ih:=km T n;refine T.bQ.f.ok hV (λe H Q E h=>?_) (λZ A outer s H e Q E hr h=>?_)
  ·obtain⟨r,rv,rfl,_⟩:=h;rfl
  ·obtain⟨r,rv,rfl,hR,hh,h6,q⟩:=h;obtain⟨t,e,rfl,hT,v,_⟩:=hR.tup;refine⟨_,(ag (bg 1 hV.nd (bn (ac (Y 0) O))) (ag (aJ (aE (qN K rfl) (df K (Y 0) af) (bO (ac aB (ac aB (ac aB O)))) (by with_unfolding_all rfl)) (ah (dy o_ rfl (iV K rfl (gf (Dw K rfl) (Y 0) (iR af) iS)) (qK 2 hV.nd) (ah (aR (jk K rfl PySem.F.plainAttrs_list PySem.F.slot_list_extend PySem.F.type_list_extend xC (Y 1) (ac (bw ih hr rfl T.bQ.m T.bQ.f.kp T.bQ.b .nil bh (ac (Y 2) O)) O)))))) aC) (ah (ax (Y 1))))),?_⟩
   refine U rfl ⟨ls rfl,λl R=>?_⟩;have s0:=aj (o:=.lst [.ref t]) (am.refl H) R;have y:aA H l (.lst [.ref t]) l=some (.lst [.ref t]):=ae
   try dsimp only
   generalize aA H l (.lst [.ref t])=H0 at s0 y⊢;refine U rfl (rX (am.tseq s0 hT) (ao (k:=0) rfl) ⟨ls rfl,λt3 G=>?_⟩);have I:=aj (o:=.tup [.str "not",.str "both",.str "either"]) s0 G;have j:aA H0 t3 (.tup [.str "not",.str "both",.str "either"]) l=some (.lst [.ref t]):=by rw[ak (aD y G)];exact y
   refine⟨t3,U rfl ⟨.inr (aW.of ae),rfl,rfl,U rfl ?_⟩⟩;show if nj (.str r.kind) [.str "not",.str "both",.str "either"]=true then _ else _
   rw[KN]
   try dsimp only
   generalize aA H0 t3 (.tup [.str "not",.str "both",.str "either"])=S at I j⊢;cases hd:r.deep with
 |false=>
    refine bV (U rfl ?_);have hs:r.subs=[r]:=by cases r<;>first|rfl|cases hd
    exact q l [.ref t] S I R j (by rw[hs];exact .cons (hR.kp (.of I)) .nil)|true=>
    obtain⟨hK,ap⟩:=v hd;refine bD ?_;refine U rfl (U rfl ?_);have hc:=r.cnt_lt;have as:2^r.hgt<=2^6:=O_ (by decide) (by lia);have aa:e.length=r.kids.length:=(Paired.length hK).symm;have J:∀(i:Nat)(k:Ru),r.kids[i]?=some k->k.hgt<=n:=λi k V=>KH (i_ V) hh;refine⟨t,U rfl ⟨am.tseq I hT,λz=>absurd z.1 (KZ _ _),λp hp=>?_⟩⟩;rw[Ix];have s2:=aj (o:=.tup e) I hp;have L:aA S p (.tup e) l=some (.lst [.ref t]):=by rw[ak (aD j hp)];exact j
    have B:aA S p (.tup e) p=some (.tup e):=ae
    try dsimp only
    generalize aA S p (.tup e)=H2 at s2 L B⊢;refine⟨p,rfl,⟨_,aW.of B⟩,KS (xs:=e) (D:={nx:=N1 (LU 1) {nx:=λ_ H'=>Q .non H',rt:=Q},rt:=Q}) (λi W H'=>am H H'/\H' p=some (.tup e)/\(∃C,H' l=some (.lst C)/\jq K H' (r::((r.kids.take i).map Ru.subs).flatten) C)/\∃v2,W=[some (.ref t),some (.ref l),v2]) ⟨s2,B,⟨[.ref t],L,.cons (hR.kp (.of s2)) .nil⟩,_,rfl⟩ (λi W H' _ h=>aW.of h.2.1) ?_ ?_⟩
    ·rintro i x W H3 hx⟨X,u,⟨C,c,g⟩,v2,rfl⟩;obtain⟨k,V,ad⟩:=jq.get hK i x hx;refine aq (U rfl ⟨.inl ⟨rfl,_,aX.of c⟩,U rfl ⟨k,x,rfl,ad.kp (.of X),J i k V,by exact tl h6,λl' al H4 M a0 an N=>?_⟩⟩);have e1:((r.kids.take (i+1)).map Ru.subs).flatten=((r.kids.take i).map Ru.subs).flatten++k.subs:=by rw[yl,V,k_,List.flatten_append];simp
     have n1:=Paired.length g;have n2:=Paired.length N;have n3:(((r.kids.take i).map Ru.subs).flatten).length+k.subs.length<=64:=by
      have e2:r.subs.length=1+((r.kids.map Ru.subs).flatten).length:=by rw[r.subs_kids,ol];lia
      have e3:((r.kids.map Ru.subs).flatten).length=(((r.kids.take (i+1)).map Ru.subs).flatten).length+(((r.kids.drop (i+1)).map Ru.subs).flatten).length:=by rw[<-kt,<-List.flatten_append,<-k_,vu]
      rw[e1,kt]at e3;unfold Ru.cnt at hc;lia
     rw[ol]at n1;refine⟨l,l',_,U rfl ⟨rfl,M _ _ c,an,by rw[lm];lia,?_⟩⟩;have kq:Kp H4 (aA H4 l (.lst (C++al))):=.lst (M _ _ c);refine⟨bR (X.trans M) R,?_,⟨_,ae,?_⟩,_,rfl⟩
     ·rw[ak (λz=>by rw[z,c]at u;cases u)];exact M _ _ u
     ·rw[e1,<-List.cons_append];exact jq.app ((g.kp (.of M)).kp kq) (N.kp kq)
    ·rintro W H3⟨X,u,⟨C,c,g⟩,v2,rfl⟩;refine U rfl (q l C H3 X R c ?_);rw[r.subs_kids];rw[aa,mu (f_ _)]at g;exact g
end
def Nb[DecidableEq g][BEq g][LawfulBEq g][DecidableEq h][BEq h][LawfulBEq h](f:g->h)(i:∀a b,f a=f b->a=b)(d:List g):dd (d.map f)=(dd d).map f:=by
 have gen:∀(d c:List g),(d.map f).foldl PyProof.Rows.step_dedup (c.map f)=(d.foldl PyProof.Rows.step_dedup c).map f:=by
  intro d
  induction d with|nil=>intro c;rfl|cons k r j=>
   intro c;rw[oD,z0,z0,<-j]
   congr 1
   unfold PyProof.Rows.step_dedup;have e:(c.map f).any (λy=>y==f k)=c.any (λy=>y==k):=by
    rw[List.any_map]
    congr 1
    funext y
    show(f y==f k)=(y==k)
    by_cases q:y=k
    ·rw[q,t0,t0]
    ·rw[RZ q,RZ (λz=>q (i _ _ z))]
   by_cases q:c.any (λy=>y==k)=true
   ·rw[kw (e.trans q),kw q]
   ·rw[ku (λz=>q (e.symm.trans z)),ku q,k_];rfl
 exact gen d []
def Ru.wset(r:Ru):List Str:=dd r.words
def Ru.wset_keys(r:Ru):dd (r.words.map (Sum.inr:Str->cg))=r.wset.map Sum.inr:=Nb Sum.inr (λ_ _ h=>sT h) r.words
def Ru.wset_le(r:Ru):r.wset.length<=r.cnt:=by have h1:=rD r.words [];have h2:=r.words_le;unfold Ru.wset dd;simp at h1;lia
inductive Jr(K:R7)(vs:List V)(H:Hp)(Q:VK)(_E:XK):Prop|mk(r:Ru)(rv:V)(_:vs=[rv])(_:ff K H r rv)(_:r.hgt<=6)(_:∀(l:Addr)(ss:Sc)(H':Hp),am H H'->H l=none->H' l=some (.lst (ss.map V.str))->ss.Perm r.wset->ss.Pairwise m9->Q (.ref l) H')
section
def AB(T:Txt K mg a):aO P w K mg base dk 8 a.kC.x a.kC.d ["rule"] (Jr K):=by
 refine T.kC.ok Ai λaa A outer s H vs Q E hr h=>?_
 ·obtain⟨r,rv,rfl,hR,hh,q⟩:=h;refine⟨_,(ah (ax (ay (zA (P:=P) (w:=w) rfl) (by rfl) T.AR L2.sG (ac (et (Dh (P:=P) (w:=w) K rfl rfl) (by rfl) T.G9 L2.vE (ac (wc ["rule"] ["inner"] [] [1] (ai lq) (cw 1) (d8 K rfl (bw ((km T 6).mono (by decide)) hr rfl T.bQ.m T.bQ.f.kp T.bQ.b .nil bh (ac (Y 0) O))) (λcl C s₀ H₀ ex=>⟨(qL ["rule"] ["inner"] 1),(yE (aE (qN K rfl) (df K (Y 1) af) (bO (ac aB (ac aB O))) (by with_unfolding_all rfl))),(df K (Y 1) af)⟩)) O)) O)))),?_⟩
  refine U rfl ⟨r,rv,rfl,hR,hh,f_ _,λl F H1 M hl u y=>?_⟩;have hc:=r.cnt_lt;have ad:2^r.hgt<=2^6:=O_ (by decide) (by omega);have G:F.length=r.subs.length:=(Paired.length y).symm;have al:r.subs.length<64:=by unfold Ru.cnt at hc;lia
  refine⟨l,rfl,⟨_,aX.of u⟩,λD N=>?_⟩;refine rJ (K:=K) (a:=l) (xs:=F) (λi e H'=>e=((r.subs.take i).filterMap Ru.word1).map V.str/\am H1 H'/\H' D=some (.lst e)) ⟨by rw[P9];rfl,aj (am.refl _) N,ae⟩ (λi e H' _ h=>aX.of (h.2.1 _ _ u)) ?_ ?_
  ·rintro i v e B R⟨rfl,p,c⟩;have hi:i<F.length:=(d_.mp R).1;obtain⟨k,hk,I⟩:=jq.get y i v R;obtain⟨t,vs,rfl,S,_,hw⟩:=(I.kp (.of p)).tup;refine aq (U rfl (rX S (ao (k:=0) rfl) ⟨ls rfl,λW J=>?_⟩));have g:=aj (o:=.tup [.str "has",.str "least"]) (am.refl B) J;refine⟨W,U rfl ⟨.inr (aW.of ae),rfl,rfl,U rfl ?_⟩⟩;show if nj (.str k.kind) [.str "has",.str "least"]=true then _ else _
   rw[KM]
   try dsimp only
   generalize aA B W (.tup [.str "has",.str "least"])=H3 at g⊢;have X:(r.subs.take (i+1)).filterMap Ru.word1=(r.subs.take i).filterMap Ru.word1++k.word1.toList:=by
    rw[yl,hk,Rn]
    congr 1
   have fl:((r.subs.take i).filterMap Ru.word1).length<=i:=n7 (List.length_filterMap_le _ _) (List.length_take_le _ _);cases j:k.word1 with|none=>refine bV (lf hi ⟨?_,p.trans g,g _ _ c⟩);rw[X,j];simp|some wd=>
    obtain⟨an,rfl⟩:=hw wd j;refine bD (U rfl (rX (am.tseq g S) (ao (k:=1) rfl) ⟨g _ _ c,?_,lf hi ⟨?_,bR (p.trans g) N,ae⟩⟩))
    ·rw[c_,lm];lia
    ·rw[X,j,k_];rfl
  ·rintro e B⟨rfl,p,c⟩;rw[G,mu (f_ _),r.words_subs]at c;have wl:=r.words_le;have ap:=r.wset_le;have c:B D=some (.lst ((r.words.map (Sum.inr:Str->cg)).map kV)):=by rw[w1];exact c
   refine⟨D,r.words.map Sum.inr,rfl,aX.of c,by rw[c_];lia,λZ L=>?_⟩;rw[r.wset_keys];have g:=aj (o:=Ex P w Z (r.wset.map Sum.inr)) (am.refl B) L;refine⟨Z,r.wset,rfl,ae,by lia,λq2 ss n hp hs=>?_⟩;have s4:=aj (o:=.lst (ss.map V.str)) g n;exact q q2 ss _ ((M.trans p).trans s4) (by cases z:H q2 with|none=>rfl|some o=>rw[((M.trans p).trans g) _ _ z]at n;cases n) ae hp hs
end
theorem G7[BEq c][LawfulBEq c]:∀{l m:List c},l.Nodup->(∀x∈l,x∈m)->l.length<=m.length
 |[],m,_,_=>n0 _|a::l,m,h,g=>by
  obtain⟨h1,h2⟩:=R4.mp h;have p:=List.perm_cons_erase (g a mm);have:=G7 (m:=m.erase a) h2 λx b=>by
   rcases pw.mp (p.mem_iff.mp (g x (k4 _ b)))with rfl|q
   ·exact absurd b h1
   ·exact q
  have e:=p.length_eq;rw[ol]at e⊢;lia
theorem Iw[DecidableEq d][BEq d][LawfulBEq d]:∀(f c:List d)(x:d),x∈f.foldl PyProof.Rows.step_dedup c↔x∈c\/x∈f
 |[],c,x=>by simp|k::r,c,x=>by
  rw[z0,Iw r];unfold PyProof.Rows.step_dedup
  by_cases e:c.any (λy=>y==k)=true
  ·rw[kw e];obtain⟨y,b,q⟩:=Q9.mp e;have g:k∈c:=by rw[<-eq_of_beq q];exact b
   constructor
   ·rintro(h|h)
    ·exact .inl h
    ·exact .inr (k4 _ h)
   ·rintro(h|h)
    ·exact .inl h
    ·rcases pw.mp h with rfl|h
     ·exact .inl g
     ·exact .inr h
  ·rw[ku e];simp only[List.mem_append,List.mem_singleton,pw,or_assoc,oi,false_or]
def Na{c:Type}[DecidableEq c][BEq c][LawfulBEq c]{d:List c}{x:c}(h:x∈dd d):x∈d:=by
 rcases(Iw d [] x).mp h with h|h
 ·cases h
 ·exact h
theorem LB[DecidableEq d][BEq d][LawfulBEq d]:∀(f c:List d),c.Nodup->(f.foldl PyProof.Rows.step_dedup c).Nodup
 |[],c,h=>h|k::r,c,h=>by
  rw[z0];refine LB r _ ?_;unfold PyProof.Rows.step_dedup
  by_cases e:c.any (λy=>y==k)=true
  ·rw[kw e];exact h
  ·rw[ku e,rr];refine⟨h,by simp,λa g b i=>?_⟩;rw[List.mem_singleton.mp i];rintro rfl;exact e (Q9.mpr ⟨a,g,t0 a⟩)
inductive JI(K:R7)(n:Nat)(vs:List V)(H:Hp)(Q:VK)(_E:XK):Prop|mk(r:Ru)(rv:V)(ws:Sc)(_:vs=[rv,.int (n:Nat)])(_:ff K H r rv)(_:r.hgt<=n)(_:kx ws r)(_:(∀w∈ws,Wd w))(_:∀H',am H H'->Q (.bl true) H')
def Hv{a b n:Nat}(h:max a b+1<=n+1):a<=n/\b<=n:=by have h1:=Rh a b;have h2:=Q5 a b;lia
section
theorem sj(T:Txt K mg a):∀n:Nat,aO P w K mg base dk (n+3) a.cp.x a.cp.d ["thing","depth"] (JI K n)
 |0=>by
  refine T.cp.f.ok l8 (λz H Q E h=>?_) (λC A outer s H z Q E j h=>?_)
  ·obtain⟨r,D,e,rfl,_⟩:=h;rfl
  ·obtain⟨r,D,e,rfl,_,hh,_⟩:=h;have:=r.hgt_pos;lia|n+1=>by
  have F:=sj T n;refine T.cp.f.ok l8 (λz H Q E h=>?_) (λC A outer s H z Q E j h=>?_)
  ·obtain⟨r,D,e,rfl,_⟩:=h;rfl
  ·obtain⟨r,D,e,rfl,R,hh,o,l,q⟩:=h;refine⟨_,(ag (aJ (PW.pt (eC (aE aS (Y 1) af (aF _)) (eC (bT (aM K rfl (ay (eS K rfl) (by rfl) T.bx L2.aV (ac (Y 0) (ac (jP rfl T.eF L2.bZ) O))) (λ_=>rfl))) (db (aE aS (ay (aH K rfl) (by rfl) T.bE L2.aI (ac (Y 0) O)) af (aF _)))))) (ah (ax eD)) aC) (ag (bg 2 l8.nd (df K (Y 0) af)) (ag (aJ (aE aS (Y 2) aB (aF _)) (ah (ax (bX aS (ay (aH K rfl) (by rfl) T.bE L2.aI (ac (Y 0) O)) af (aF _)))) aC) (ag (aJ (aE aS (Y 2) aB (aF _)) (ah (ax (cJ (bX aS (ay (aH K rfl) (by rfl) T.bE L2.aI (ac (Y 0) O)) af (aF _)) (dA (bw ((gE T).mono (by first|decide|exact R1 _ _)) j rfl T.dQ.m T.dQ.f.kp T.dQ.b .nil bh (ac (df K (Y 0) af) O)))))) aC) (ag (aJ (aE aS (Y 2) aB (aF _)) (ah (ax (cJ (bX aS (ay (aH K rfl) (by rfl) T.bE L2.aI (ac (Y 0) O)) af (aF _)) (cJ (bw ((gE T).mono (by first|decide|exact R1 _ _)) j rfl T.dQ.m T.dQ.f.kp T.dQ.b .nil bh (ac (df K (Y 0) af) O)) (dA (bw ((pk T).mono (by first|decide|exact R1 _ _)) j rfl T.fb.m T.fb.f.kp T.fb.b .nil bh (ac (df K (Y 0) af) O))))))) aC) (ag (aJ (aE aS (Y 2) aB (aF _)) (ah (ax (cJ (bX aS (ay (aH K rfl) (by rfl) T.bE L2.aI (ac (Y 0) O)) af (aF _)) (dA (bw F j rfl T.cp.m T.cp.f.kp T.cp.b .nil bh (ac (df K (Y 0) af) (ac (av fq (Y 1) af) O))))))) aC) (ag (aJ (PW.pt (eC (aE aS (Y 2) aB (aF _)) (db (aE aS (Y 2) aB (aF _))))) (ah (ax (cJ (bX aS (ay (aH K rfl) (by rfl) T.bE L2.aI (ac (Y 0) O)) af (aF _)) (cJ (bw F j rfl T.cp.m T.cp.f.kp T.cp.b .nil bh (ac (df K (Y 0) af) (ac (av fq (Y 1) af) O))) (dA (bw F j rfl T.cp.m T.cp.f.kp T.cp.b .nil bh (ac (df K (Y 0) af) (ac (av fq (Y 1) af) O)))))))) aC) (ah (ax eD))))))))),?_⟩
   have hd:((n+1:Nat):Int)-1=(n:Int):=by lia
   obtain⟨t,z,rfl,B,-⟩:=R.tup;refine U rfl ⟨rfl,U rfl (kS (λh=>absurd h (by lia)) (λG=>?_))⟩;refine U rfl ⟨_,"tuple",_,true,rfl,.inr ⟨t,U rfl ⟨B,rfl⟩⟩,de (by decide+kernel),true,rfl,bV ?_⟩;refine U rfl ⟨_,U rfl ⟨.inr ⟨_,B,rfl⟩,rfl,U rfl (kS (λh=>absurd h (by rw[ol];lia)) (λI=>?_))⟩⟩;refine U rfl (rX B (ao (k:=0) rfl) ?_);refine aq ?_;clear B G I;cases R with
 |any h=>refine U rfl ⟨rfl,U rfl (bW ?_)⟩;refine U rfl ⟨_,U rfl ⟨.inr ⟨_,h,rfl⟩,rfl,?_⟩⟩;exact lg (p:=V.int 1=V.int 1) rfl (q H (am.refl _))|has h=>cases o with|has hm=>refine U rfl ⟨rfl,U rfl (wn ?_)⟩;refine U rfl ⟨rfl,U rfl (bW ?_)⟩;refine U rfl ⟨_,U rfl ⟨.inr ⟨_,h,rfl⟩,rfl,U rfl (bD ?_)⟩⟩;exact U rfl (rX h rfl ⟨V.str _,rfl,.inl (U rfl ⟨l _ hm,q⟩)⟩)
   |least h=>cases o with|least hm h1 h2=>(iterate 2 refine U rfl ⟨rfl,U rfl (wn ?_)⟩);refine U rfl ⟨rfl,U rfl (bW ?_)⟩;refine U rfl ⟨_,U rfl ⟨.inr ⟨_,h,rfl⟩,rfl,U rfl (bD ?_)⟩⟩;refine U rfl (rX h rfl ⟨V.str _,rfl,.inl (U rfl ⟨l _ hm,λJ c=>(U rfl (bD ?_))⟩)⟩);exact⟨_,rfl,t,_,2,_,rfl,rfl,am.tseq c h,rfl,_,rfl,⟨h1,h2⟩,q J c⟩
   |not h h1=>cases o with|not u=>rename_i g i;have hh:g.hgt+1<=n+1:=hh;(iterate 3 refine U rfl ⟨rfl,U rfl (wn ?_)⟩);refine U rfl ⟨rfl,U rfl (bW ?_)⟩;refine U rfl ⟨_,U rfl ⟨.inr ⟨_,h,rfl⟩,rfl,U rfl (bD ?_)⟩⟩;refine U rfl (rX h rfl (U rfl (r2 ?_)));exact⟨g,i,e,by show[i,V.int (((n+1:Nat):Int)-1)]=_;rw[hd],h1,by exact RH hh,u,l,q⟩
   |both h h1 h2=>cases o with|both u L=>rename_i g v i y;have hh:=Hv (show max g.hgt v.hgt+1<=n+1 from hh);(iterate 4 refine U rfl ⟨rfl,U rfl (wn ?_)⟩);refine U rfl ⟨rfl,U rfl (bW ?_)⟩;refine U rfl ⟨_,U rfl ⟨.inr ⟨_,h,rfl⟩,rfl,U rfl (bD ?_)⟩⟩;refine U rfl (rX h rfl (U rfl (r2 ?_)));refine⟨g,i,e,by show[i,V.int (((n+1:Nat):Int)-1)]=_;rw[hd],h1,hh.1,u,l,λJ c=>(U rfl (bD ?_))⟩;refine U rfl (rX (am.tseq c h) rfl (U rfl (r2 ?_)));exact⟨v,y,e,by show[y,V.int (((n+1:Nat):Int)-1)]=_;rw[hd],h2.kp (.of c),hh.2,L,l,λM N=>q M (c.trans N)⟩
   |either h h1 h2=>cases o with|either u L=>rename_i g v i y;have hh:=Hv (show max g.hgt v.hgt+1<=n+1 from hh);(iterate 5 refine U rfl ⟨rfl,U rfl (wn ?_)⟩);refine U rfl ⟨rfl,U rfl (bW ?_)⟩;refine U rfl ⟨_,U rfl ⟨.inr ⟨_,h,rfl⟩,rfl,U rfl (bD ?_)⟩⟩;refine U rfl (rX h rfl (U rfl (r2 ?_)));refine⟨g,i,e,by show[i,V.int (((n+1:Nat):Int)-1)]=_;rw[hd],h1,hh.1,u,l,λJ c=>(U rfl (bD ?_))⟩;refine U rfl (rX (am.tseq c h) rfl (U rfl (r2 ?_)));exact⟨v,y,e,by show[y,V.int (((n+1:Nat):Int)-1)]=_;rw[hd],h2.kp (.of c),hh.2,L,l,λM N=>q M (c.trans N)⟩
end
def kx.mem(h:kx c r):∀w∈r.words,w∈c:=by induction h with|any=>exactλw h=>(nomatch h)|has h=>intro w b;rw[List.mem_singleton.mp b];exact h|least h=>intro w b;rw[List.mem_singleton.mp b];exact h|not _ h=>exact h|both _ _ h g=>exactλw b=>(List.mem_append.mp b).elim (h w) (g w)|either _ _ h g=>exactλw b=>(List.mem_append.mp b).elim (h w) (g w)
def kx.few{c:Sc}{r:Ru}(h:kx c r):r.wset.length<=c.length:=G7 (LB r.words [] QM) λx b=>h.mem x (Na b)
inductive Gg(K:R7)(vs:List V)(H:Hp)(Q:VK)(_E:XK):Prop|mk(r:Ru)(rv:V)(ws:Sc)(_:vs=[rv])(_:ff K H r rv)(_:r.hgt<=6)(_:r.cnt<=30)(_:kx ws r)(_:(∀w∈ws,Wd w))(_:ws.length<=3)(_:∀H',am H H'->Q (.bl true) H')
section
def Cj(T:Txt K mg a):aO P w K mg base dk 10 a.m4.x a.m4.d ["thing"] (Gg K):=by
 refine T.m4.ok B7 λv A outer s H L Q E c h=>?_
 ·obtain⟨r,e,y,rfl,g,hh,hc,o,z,M,q⟩:=h;refine⟨_,(ag (aJ (bT (aM K rfl (bw ((sj T 6).mono (by decide)) c rfl T.cp.m T.cp.f.kp T.cp.b .nil bh (ac (Y 0) (ac (cB T.vD rfl) O))) (λ_=>rfl))) (ah (ax eD)) aC) (ah (ax (cJ (bX jQ (ay (aH K rfl) (by rfl) T.bE L2.aI (ac (bw ((km T 6).mono (by decide)) c rfl T.bQ.m T.bQ.f.kp T.bQ.b .nil bh (ac (Y 0) O)) O)) (cB T.zF rfl) (aF _)) (dA (bX jQ (ay (aH K rfl) (by rfl) T.bE L2.aI (ac (pc T.kC (AB T) c (ac (Y 0) O)) O)) (cB T.zC rfl) (aF _))))))),?_⟩
  refine U rfl ⟨r,e,y,rfl,g,hh,o,z,λN i=>(U rfl (bV ?_))⟩;refine U rfl ⟨r,e,rfl,g.kp (.of i),hh,f_ _,λl p R t B j k=>?_⟩;have C:p.length=r.subs.length:=(Paired.length k).symm;unfold Ru.cnt at hc;refine⟨_,p.length,rfl,.inl ⟨_,aX.of j,rfl⟩,_,U rfl ⟨rfl,U rfl (ko (λ_=>?_) (λh=>absurd (by lia) h))⟩⟩;refine U rfl ⟨r,e,rfl,g.kp (.of (i.trans t)),hh,λS u D F G n I _=>?_⟩;have V:=o.few;have J:=I.length_eq;refine⟨_,u.length,rfl,.inl ⟨_,aX.of n,by simp⟩,_,U rfl ⟨rfl,?_⟩⟩;exact lg (show((u.length:Nat):Int)<=3 by lia) (q D ((i.trans t).trans F))
end
inductive JH(K:R7)(h:Nat)(vs:List V)(H:Hp)(Q:VK)(_E:XK):Prop|mk(r:Ru)(rv:V)(ms:List (Str×Int))(mv:V)(_:vs=[rv,mv])(_:ff K H r rv)(_:r.hgt<=h)(_:tS K H ms mv)(_:ms.length<=100)(_:∀H',am H H'->Q (.bl (r.sat ms)) H')
section
theorem AJ(T:Txt K mg a):∀h:Nat,aO P w K mg base dk (h+1) a.dH.x a.dH.d ["rule","marks"] (JH K h)
 |0=>by
  refine T.dH.f.ok uy (λvs H Q E h=>?_) (λaa A outer s H vs Q E R h=>?_)
  ·obtain⟨r,rv,k,mv,rfl,_⟩:=h;rfl
  ·obtain⟨r,rv,k,mv,rfl,_,hh,_⟩:=h;have:=r.hgt_pos;lia|n+1=>by
  have W:=AJ T n;refine T.dH.f.ok uy (λvs H Q E h=>?_) (λaa A outer s H vs Q E R h=>?_)
  ·obtain⟨r,rv,k,mv,rfl,_⟩:=h;rfl
  ·obtain⟨r,rv,k,mv,rfl,hR,hh,S,p,q⟩:=h;obtain⟨mt,l,rfl,I,X,Z⟩:=id S;refine⟨_,(ag (bg 2 uy.nd (df K (Y 0) af)) (ag (aJ (aE aS (Y 2) aB (aF _)) (ah (ax eD)) aC) (ag (aJ (aE aS (Y 2) aB (aF _)) (ah (ax (ay (rN K rfl rfl) (by rfl) T.Hf L2.vH (ac (wc pW ["mark"] [] [3] (ai pf) (cw 3) (iV K rfl (Y 1)) (λcl C s₀ H₀ ex=>⟨(qL pW ["mark"] 3),cr,(bX aS (df K (Y 3) af) (df K (Y 0) af) (aF _))⟩)) O)))) aC) (ag (aJ (aE aS (Y 2) aB (aF _)) (ah (ax (ay (rN K rfl rfl) (by rfl) T.Hf L2.vH (ac (wc pW ["mark"] [] [3] (ai pf) (cw 3) (iV K rfl (Y 1)) (λcl C s₀ H₀ ex=>⟨(qL pW ["mark"] 3),cr,(cJ (bX aS (df K (Y 3) af) (df K (Y 0) af) (aF _)) (dA (bX GX (df K (Y 3) af) (df K (Y 0) af) (aF _))))⟩)) O)))) aC) (ag (aJ (aE aS (Y 2) aB (aF _)) (ah (ax (GS (bw W R rfl T.dH.m T.dH.f.kp T.dH.b .nil bh (ac (df K (Y 0) af) (ac (Y 1) O)))))) aC) (ag (aJ (aE aS (Y 2) aB (aF _)) (ah (ax (cJ (bw W R rfl T.dH.m T.dH.f.kp T.dH.b .nil bh (ac (df K (Y 0) af) (ac (Y 1) O))) (dA (bw W R rfl T.dH.m T.dH.f.kp T.dH.b .nil bh (ac (df K (Y 0) af) (ac (Y 1) O))))))) aC) (ah (ax (Os (bw W R rfl T.dH.m T.dH.f.kp T.dH.b .nil bh (ac (df K (Y 0) af) (ac (Y 1) O))) (dA (bw W R rfl T.dH.m T.dH.f.kp T.dH.b .nil bh (ac (df K (Y 0) af) (ac (Y 1) O))))))))))))),?_⟩
   have c:∀{A B:Prop}{x y:Str},x≠y->B->if decide (V.str x=V.str y)=true then A else B:=λh b=>HK (λe=>absurd e h) (λ_=>b)
   have j:∀{A B:Prop}{x:Str},A->if decide (V.str x=V.str x)=true then A else B:=λa=>HK (λ_=>a) (λh=>absurd rfl h)
   cases hR with|any h=>refine U rfl (rX h rfl ?_);exact U rfl ⟨rfl,U rfl (j (q _ (am.refl _)))⟩|has h=>
    refine U rfl (rX h rfl ?_);refine U rfl ⟨rfl,U rfl (c (by decide+kernel) ?_)⟩;refine U rfl ⟨rfl,U rfl (j ?_)⟩;rename_i ra wd;refine U rfl ⟨mt,rfl,⟨_,I⟩,λD hD=>?_⟩;have t:∀g,am H (aA H D (.lst g)):=λg=>aj (am.refl _) hD;refine iy (K:=K) (a:=mt) (xs:=l) (λi g H'=>g=((k.take i).map (OR wd)).map V.bl/\H'=aA H D (.lst g)) ⟨by rw[P9];rfl,rfl⟩ (λi g H' _ h=>h.2▸am.tseq (t _) I) ?_ ?_
    ·rintro i v g _ L⟨rfl,rfl⟩;have hi:i<l.length:=(d_.mp L).1;obtain⟨b,hb,hB⟩:=Z i (k[i]'(by lia)) (h_ (by lia));rw[hb]at L;cases L;refine aq (j3 (bD ?_));refine U rfl (rX (am.tseq (t _) hB) rfl (U rfl (rX (am.tseq (t _) h) rfl ⟨rfl,ae,?_,lf hi ⟨?_,?_⟩⟩)))
     ·rw[c_,c_,oe,lm];lia
     ·rw[ui (h_ (by lia)),k_];rfl
     ·rw[fZ]
    ·rintro g _⟨rfl,rfl⟩;refine⟨D,_,rfl,aX.of ae,?_⟩;rw[X,mu (f_ _)];exact q _ (t _)|least h=>
    refine U rfl (rX h rfl ?_);(iterate 2 refine U rfl ⟨rfl,U rfl (c (by decide+kernel) ?_)⟩);refine U rfl ⟨rfl,U rfl (j ?_)⟩;rename_i ra wd F;refine U rfl ⟨mt,rfl,⟨_,I⟩,λD hD=>?_⟩;have t:∀g,am H (aA H D (.lst g)):=λg=>aj (am.refl _) hD;refine iy (K:=K) (a:=mt) (xs:=l) (λi g H'=>g=((k.take i).map (gF wd F)).map V.bl/\H'=aA H D (.lst g)) ⟨by rw[P9];rfl,rfl⟩ (λi g H' _ h=>h.2▸am.tseq (t _) I) ?_ ?_
    ·rintro i v g _ L⟨rfl,rfl⟩;have hi:i<l.length:=(d_.mp L).1;obtain⟨b,hb,hB⟩:=Z i (k[i]'(by lia)) (h_ (by lia));rw[hb]at L;cases L;have fin:∀b,b=gF wd F (k[i]'(by lia))->aA H D (.lst (((k.take i).map (gF wd F)).map V.bl)) D=some (.lst (((k.take i).map (gF wd F)).map V.bl))/\(((k.take i).map (gF wd F)).map V.bl).length<sizeLine/\∃m',m'<l.length-i/\m'=l.length-(i+1)/\i+1<=l.length/\((((k.take i).map (gF wd F)).map V.bl++[V.bl b]=((k.take (i+1)).map (gF wd F)).map V.bl)/\aA (aA H D (.lst (((k.take i).map (gF wd F)).map V.bl))) D (.lst (((k.take i).map (gF wd F)).map V.bl++[V.bl b]))=aA H D (.lst (((k.take i).map (gF wd F)).map V.bl++[V.bl b]))):=λb eb=>by
      refine⟨ae,?_,lf hi ⟨?_,?_⟩⟩
      ·rw[c_,c_,oe,lm];lia
      ·rw[ui (h_ (by lia)),k_,eb];rfl
      ·rw[fZ]
     refine aq (j3 (bD ?_));refine U rfl (rX (am.tseq (t _) hB) rfl (U rfl (rX (am.tseq (t _) h) rfl ⟨rfl,U rfl (HK (λe=>?_) (λe=>?_))⟩)))
     ·refine U rfl (rX (am.tseq (t _) hB) rfl (U rfl (rX (am.tseq (t _) h) rfl (r2 (fin _ ?_)))));unfold gF;rw[kw (by rw[e];exact nn rfl)]
     ·refine fin _ ?_;unfold gF;rw[ku (by rw[no (λz=>e (V.str.inj z))];exact mo)]
    ·rintro g _⟨rfl,rfl⟩;refine⟨D,_,rfl,aX.of ae,?_⟩;rw[X,mu (f_ _)];exact q _ (t _)|not h h1=>rename_i ra G v;have hq:G.hgt+1<=n+1:=hh;refine U rfl (rX h rfl ?_);(iterate 3 refine U rfl ⟨rfl,U rfl (c (by decide+kernel) ?_)⟩);refine U rfl ⟨rfl,U rfl (j ?_)⟩;exact U rfl (rX h rfl (U rfl ⟨G,v,k,_,rfl,h1,by exact RH hh,S,p,λH' o=>(U rfl (q H' o))⟩))|both h h1 h2=>
    rename_i ra G M v u;have hq:max G.hgt M.hgt+1<=n+1:=hh;refine U rfl (rX h rfl ?_);(iterate 4 refine U rfl ⟨rfl,U rfl (c (by decide+kernel) ?_)⟩);refine U rfl ⟨rfl,U rfl (j ?_)⟩;refine U rfl (rX h rfl (U rfl ⟨G,v,k,_,rfl,h1,by lia,S,p,λH' o=>(U rfl ?_)⟩));have J:∀H',am H H'->Q (.bl (if G.sat k=true then M.sat k else false)) H':=q;refine zf (λe=>?_) (λe=>?_)
    ·rw[kw e]at J;exact U rfl (rX (am.tseq o h) rfl (U rfl ⟨M,u,k,_,rfl,h2.kp (.of o),by lia,S.kp (.of o),p,λH2 N=>J H2 (o.trans N)⟩))
    ·rw[ku (by rw[e];exact mo)]at J;exact J H' o|either h h1 h2=>
    rename_i ra G M v u;have hq:max G.hgt M.hgt+1<=n+1:=hh;refine U rfl (rX h rfl ?_);(iterate 5 refine U rfl ⟨rfl,U rfl (c (by decide+kernel) ?_)⟩);refine U rfl (rX h rfl (U rfl ⟨G,v,k,_,rfl,h1,by lia,S,p,λH' o=>(U rfl ?_)⟩));have J:∀H',am H H'->Q (.bl (if G.sat k=true then true else M.sat k)) H':=q;refine zf (λe=>?_) (λe=>?_)
    ·rw[kw e]at J;exact J H' o
    ·rw[ku (by rw[e];exact mo)]at J;exact U rfl (rX (am.tseq o h) rfl (U rfl ⟨M,u,k,_,rfl,h2.kp (.of o),by lia,S.kp (.of o),p,λH2 N=>J H2 (o.trans N)⟩))
end
inductive JO(vs:List V)(H:Hp)(Q:VK)(_E:XK):Prop|mk(x:_)(_:vs=[.str x])(_:Wd x)(_:∀H',am H H'->Q .non H')
inductive JU(K:R7)(vs:List V)(H:Hp)(Q:VK)(_E:XK):Prop|mk(p:Addr)(l:Sc)(_:vs=[.ref p])(_:aW K H p (l.map V.str))(_:(∀w∈l,Wd w))(_:l.Nodup)(_:1<=l.length)(_:l.length<=4)(_:∀H',am H H'->Q .non H')
inductive JP(K:R7)(vs:List V)(H:Hp)(Q:VK)(_E:XK):Prop|mk(r:Ru)(rv:V)(ws:Sc)(_:vs=[rv])(_:ff K H r rv)(_:r.hgt<=6)(_:r.cnt<=30)(_:kx ws r)(_:(∀w∈ws,Wd w))(_:ws.length<=3)(_:∀H',am H H'->Q .non H')
inductive Gs(vs:List V)(H:Hp)(Q:VK)(_E:XK):Prop|mk(x:_)(_:vs=[.str x])(_:DX x)(_:∀H',am H H'->Q .non H')
inductive Gq(K:R7)(vs:List V)(H:Hp)(Q:VK)(_E:XK):Prop|mk(v:V)(l:List (Str×Int))(_:vs=[v])(_:tS K H l v)(_:(∀m∈l,Wd m.1/\-c5<=m.2/\m.2<=c5))(_:(l.map Prod.fst).Nodup)(_:l.length<=8)(_:∀H',am H H'->Q .non H')
inductive Gu(vs:List V)(H:Hp)(Q:VK)(_E:XK):Prop|mk(z:_)(_:vs=[.int z])(_:0<=z)(_:Q .non H)
inductive Ev(K:R7)(vs:List V)(H:Hp)(Q:VK)(_E:XK):Prop|mk(p:Addr)(l:Sh)(_:vs=[.ref p,.int (l.length:Nat)])(_:aW K H p (l.map V.int))(_:(∀i∈l,0<=i))(_:l.length<=100)(_:∀H',am H H'->Q .non H')
inductive JS(K:R7)(vs:List V)(H:Hp)(Q:VK)(_E:XK):Prop|mk(z:Int)(p:Addr)(l:Sh)(_:vs=[.int z,.ref p,.int (l.length:Nat)])(_:(0<=z/\z<=1000))(_:aW K H p (l.map V.int))(_:(∀i∈l,1<=i/\i<=c5))(_:l.length<=100)(_:∀H',am H H'->Q .non H')
section
def nB(T:Txt K mg a):aO P w K mg base dk 3 a.fG.x a.fG.d ["thing"] JO:=by
 refine T.fG.ok wo λb A outer s H i Q E c h=>?_
 ·obtain⟨x,rfl,e,q⟩:=h;refine⟨_,(ah (aJ (bT (aM K rfl (pc T.dQ (gE T) c (ac (Y 0) O)) (λ_=>rfl))) (ah cn) aC)),?_⟩;exact U rfl ⟨V.str x,rfl,.inl ⟨x,rfl,e,λf g=>(U rfl (bV (q f g)))⟩⟩
def wF(T:Txt K mg a):aO P w K mg base dk 4 a.gL.x a.gL.d ["thing"] (JU K):=by
 refine T.gL.ok ww λb A outer s H g Q E c h=>?_
 ·obtain⟨p,l,rfl,h1,h2,h3,h4,h5,q⟩:=h;refine⟨_,(ah (aJ (bT (aM K rfl (pc T.kZ (AK T) c (ac (Y 0) O)) (λ_=>rfl))) (ah cn) aC)),?_⟩;exact U rfl ⟨p,l,rfl,h1,h2,h3,h4,h5,λe f=>(U rfl (bV (q e f)))⟩
def wB(T:Txt K mg a):aO P w K mg base dk 11 a.gI.x a.gI.d ["thing"] (JP K):=by
 refine T.gI.ok wq λb A outer s H j Q E c h=>?_
 ·obtain⟨r,e,f,rfl,h1,h2,h3,h4,h5,h6,q⟩:=h;refine⟨_,(ah (aJ (bT (aM K rfl (pc T.m4 (Cj T) c (ac (Y 0) O)) (λ_=>rfl))) (ah cn) aC)),?_⟩;exact U rfl ⟨r,e,f,rfl,h1,h2,h3,h4,h5,h6,λg i=>(U rfl (bV (q g i)))⟩
def mq(T:Txt K mg a):aO P w K mg base dk 3 a.eQ.x a.eQ.d ["thing"] Gs:=by
 refine T.eQ.ok uF λb A outer s H i Q E c h=>?_
 ·obtain⟨x,rfl,e,q⟩:=h;refine⟨_,(ah (aJ (bT (aM K rfl (pc T.kW (AI T) c (ac (Y 0) O)) (λ_=>rfl))) (ah cn) aC)),?_⟩;exact U rfl ⟨x,rfl,e,λf g=>(U rfl (bV (q f g)))⟩
def uZ(T:Txt K mg a):aO P w K mg base dk 5 a.fP.x a.fP.d ["thing"] (Gq K):=by
 refine T.fP.ok uC λb A outer s H g Q E c h=>?_
 ·obtain⟨v,l,rfl,h1,h2,h3,h4,q⟩:=h;refine⟨_,(ah (aJ (bT (aM K rfl (pc T.i5 (yL T) c (ac (Y 0) O)) (λ_=>rfl))) (ah cn) aC)),?_⟩;exact U rfl ⟨v,l,rfl,h1,h2,h3,h4,λe f=>(U rfl (bV (q e f)))⟩
def u3(T:Txt K mg a):aO P w K mg base dk 3 a.fS.x a.fS.d ["thing"] Gu:=by
 refine T.fS.ok uG λb A outer s H e Q E c h=>?_
 ·obtain⟨z,rfl,h0,q⟩:=h;refine⟨_,(ah (aJ (bT (aM K rfl (pc T.eM (fK T) c (ac (Y 0) O)) (λ_=>rfl))) (ah cn) aC)),?_⟩;exact U rfl ⟨z,rfl,h0,U rfl (bV q)⟩
def tu(T:Txt K mg a):aO P w K mg base dk 4 a.fc.x a.fc.d ["thing","many"] (Ev K):=by
 refine T.fc.ok sW λb A outer s H g Q E c h=>?_
 ·obtain⟨p,l,rfl,h1,h2,h3,q⟩:=h;refine⟨_,(ah (aJ (bT (aM K rfl (pc T.gN (wG T) c (ac (Y 0) (ac (Y 1) O))) (λ_=>rfl))) (ah cn) aC)),?_⟩;exact U rfl (U rfl ⟨p,l,rfl,h1,h2,h3,λe f=>(U rfl (bV (q e f)))⟩)
def qO(T:Txt K mg a):aO P w K mg base dk 4 a.eA.x a.eA.d ["total","weights","many"] (JS K):=by
 refine T.eA.ok qD λc A outer s H i Q E b h=>?_
 ·obtain⟨z,p,l,rfl,e,h1,h2,h3,q⟩:=h;refine⟨_,(ah (aJ (PW.pt (eC (bT (aM K rfl (pc T.kT (AG T) b (ac (Y 0) O)) (λ_=>rfl))) (db (bT (aM K rfl (pc T.fU (u4 T) b (ac (Y 1) (ac (Y 2) O))) (λ_=>rfl)))))) (ah cn) aC)),?_⟩;refine U rfl ⟨z,rfl,e,U rfl (bV ?_)⟩;exact U rfl (U rfl ⟨p,l,rfl,h1,h2,h3,λf g=>(U rfl (bV (q f g)))⟩)
end
inductive Er(vs:List V)(H:Hp)(Q:VK)(_E:XK):Prop|mk(z:Int)(_:vs=[.int z])(_:(2<=z/\z<=997))(_:(∀i:Nat,2+(i:Int)<z->z%(2+(i:Int))≠0))(_:∀H',am H H'->Q (.bl true) H')
inductive Gf(vs:List V)(H:Hp)(Q:VK)(_E:XK):Prop|mk(z:_)(_:vs=[.int z])(_:(0<=z/\z<=c5))(_:Q (.bl true) H)
inductive Gr(vs:List V)(H:Hp)(Q:VK)(_E:XK):Prop|mk(z s:Int)(_:vs=[.int z,.int s])(_:(2<=z/\z<=997))(_:(∀i:Nat,2+(i:Int)<z->z%(2+(i:Int))≠0))(_:(0<=s/\s<=c5))(_:∀H',am H H'->Q .non H')
inductive Mj(vs:List V)(H:Hp)(Q:VK)(_E:XK):Prop|mk(x:Str)(d:Addr)(kvs:List (cg×V))(_:vs=[.str x,.ref d])(_:Wd x)(_:H d=some (.dK kvs))(_:bp kvs (.inr x)=none)(_:∀H',am H H'->Q .non H')
inductive Gk(vs:List V)(H:Hp)(Q:VK)(_E:XK):Prop|mk(x:Str)(d:Addr)(kvs:List (cg×V))(_:vs=[.str x,.ref d])(_:Wd x)(_:H d=some (.dK kvs))(_:(bp kvs (.inr x)).isSome=true)(_:∀H',am H H'->Q .non H')
theorem mO:∀c:List Str,(c.map V.str).all nI=true|[]=>rfl|w::r=>by rw[oD,Qz,mO r];rfl
def HM{w:Str}{c:Sc}(h:w∈c):nj (.str w) (c.map V.str)=true:=by unfold nj;rw[Q9];exact⟨.str w,nk.mpr ⟨w,h,rfl⟩,by show(w==w)=true;exact t0 w⟩
section
def AH(T:Txt K mg a):aO P w K mg base dk 2 a.kU.x a.kU.d ["thing"] Er:=by
 refine T.kU.ok Al λe A outer s H j Q E f h=>?_
 ·obtain⟨z,rfl,⟨h1,h2⟩,hd,q⟩:=h;refine⟨_,(ag (aJ (PW.pt (eC (bT (aM K rfl (pc T.gk (jR T) f (ac (Y 0) O)) (λ_=>rfl))) (db (bT (As jQ jQ (cB T.xg rfl) (Y 0) (cB T.rO rfl)))))) (ah (ax eD)) aC) (ah (ax (ay (i4 K rfl rfl) (by rfl) T.xB L2.kY (ac (wc ["thing"] ["divisor"] [] [1] (ai lr) (cw 1) (xx rfl T.dP (ac af (ac (Y 0) O))) (λcl C s₀ H₀ ex=>⟨(qL ["thing"] ["divisor"] 1),cr,(bX GV (av aQ (Y 0) (Y 1)) af (aF _))⟩)) O))))),?_⟩
  refine U rfl ⟨z,rfl,U rfl (bV ?_)⟩;refine U rfl (r2 (U rfl ?_));refine ko (λ_=>?_) (λh=>absurd h1 h);refine r2 (U rfl ?_);rw[nn h2];refine bV ?_;refine U rfl ⟨_,U rfl ⟨⟨by decide,by decide,by lia,by lia⟩,λD g=>?_⟩⟩;refine eO (K:=K) (lo:=2) (n:=(z-2).toNat) (λi b c=>b=(List.replicate i true).map V.bl/\c=aA H D (.lst b)) ⟨rfl,rfl⟩ ?_ ?_
  ·rintro i b c hi⟨rfl,rfl⟩;refine aq (j3 (bD (U rfl (U rfl (r2 ⟨(by show(0:Int)<_;first|decide|lia),rfl,?_⟩)))));refine⟨ae,kD i (by omega),lf hi ⟨?_,by rw[fZ]⟩⟩;have hn:=hd i (by omega);rw[<-i6]
   congr 2
   simp[hn]
  ·rintro b c⟨rfl,rfl⟩;refine⟨D,_,rfl,aX.of ae,?_⟩;rw[kE];exact q _ (aj (am.refl _) g)
def Ci(T:Txt K mg a):aO P w K mg base dk 3 a.mZ.x a.mZ.d ["thing"] Gf:=by
 refine T.mZ.ok B6 λb A outer s H e Q E c h=>?_
 ·obtain⟨z,rfl,⟨h1,h2⟩,q⟩:=h;refine⟨_,(ah (ax (cJ (pc T.eM (fK T) c (ac (Y 0) O)) (dA (bX jQ (Y 0) (av uU af af) (aF _)))))),?_⟩;refine U rfl ⟨z,rfl,h1,U rfl (bD ?_)⟩
  walk_at "a"
  exact lg h2 q
def u0(T:Txt K mg a):aO P w K mg base dk 4 a.fQ.x a.fQ.d ["prime","salt"] Gr:=by
 refine T.fQ.ok uE λc A outer s H g Q E b h=>?_
 ·obtain⟨z,sa,rfl,h1,h2,h3,q⟩:=h;refine⟨_,(ah (aJ (PW.pt (eC (bT (aM K rfl (pc T.kU (AH T) b (ac (Y 0) O)) (λ_=>rfl))) (db (bT (aM K rfl (pc T.mZ (Ci T) b (ac (Y 1) O)) (λ_=>rfl)))))) (ah cn) aC)),?_⟩;refine U rfl ⟨z,rfl,h1,h2,λe f=>(U rfl (bV ?_))⟩;exact U rfl ⟨sa,rfl,h3,U rfl (bV (q e f))⟩
def pq(T:Txt K mg a):aO P w K mg base dk 4 a.gJ.x a.gJ.d ["thing","names"] Mj:=by
 refine T.gJ.ok yx λe A outer s H i Q E b h=>?_
 ·obtain⟨x,d,f,rfl,h1,h2,h3,q⟩:=h;refine⟨_,(ag (aR (pc T.fG (nB T) b (ac (Y 0) O))) (ah (aJ (oB (Ch (ck b) (Y 0) (Y 1)) rfl) (ah cn) aC))),?_⟩
  refine U rfl ⟨x,rfl,h1,λg c=>?_⟩;refine U rfl (U rfl (rG none (by rw[<-h3];exact dG.k (k:=.inr x) (c _ _ h2)) (U rfl (bV (q g c)))))
def c7(T:Txt K mg a):aO P w K mg base dk 4 a.bM.x a.bM.d ["thing","names"] Gk:=by
 refine T.bM.ok oZ λf A outer s H i Q E c h=>?_
 ·obtain⟨x,d,b,rfl,h1,h2,h3,q⟩:=h;refine⟨_,(ag (aR (pc T.fG (nB T) c (ac (Y 0) O))) (ah (aJ (oB (qM (ck c) (Y 0) (Y 1)) rfl) (ah cn) aC))),?_⟩
  refine U rfl ⟨x,rfl,h1,λg e=>?_⟩;refine U rfl (U rfl (rG (bp b (.inr x)) (dG.k (k:=.inr x) (e _ _ h2)) (U rfl ?_)));rw[h3];exact bV (q g e)
end
abbrev Pl:=bS×V×List Int
def fe(H:Hp)(tk:List iz)(m:List Pl):Prop:=Paired (λ(x:iz)(y:Pl)=>x.1=y.1/\x.2.1=y.2.1/\∃l,x.2.2=.ref l/\H l=some (.lst (y.2.2.map V.int))) tk m
structure eI(P:Sb)(w:World)(K:R7)(C:Addr)(H:Hp)(t od td:Addr)(n:Nat)(ow:List (cg×V))(tk:List iz)(m:List Pl):Prop where
 ins:∃dx,H t=some (.ins C dx [("many",.int n),("owners",.ref od),("taken",.ref td)])own:H od=some (.dK ow)tak:H td=some (dM P w td tk)keys:dF K H tk
 lsts:fe H tk m
def fe.same(e:am H H')(h:fe H tk m):fe H' tk m:=Paired.mapP h λ_ _ h=>⟨h.1,h.2.1,h.2.2.imp λ_ q=>⟨q.1,e _ _ q.2⟩⟩
def dC(e:Kp H H')(h:cN K H k v):cN K H' k v:=by match k,h with|.inl _,h=>exact h|.inr [],h=>exact h|.inr (_::_),h=>obtain⟨b,h1,h2⟩:=h;exact⟨b,h1,e.tq h2⟩
def oH(e:am H H')(h:cN K H k v):cN K H' k v:=by exact dC (.of e) h
theorem eI.same(e:am H H')(h:eI P w K C H t c d n ow tk m):eI P w K C H' t c d n ow tk m:=⟨let⟨dx,i⟩:=h.ins;⟨dx,e _ _ i⟩,e _ _ h.own,e _ _ h.tak,λx b=>oH e (h.keys x b),h.lsts.same e⟩
def fe.val(h:fe H tk m)(k:bS):(∃l c,ft tk k=some (.ref l)/\ft m k=some c/\H l=some (.lst (c.map V.int)))\/(ft tk k=none/\ft m k=none):=by induction h with|nil=>exact .inr ⟨rfl,rfl⟩|@cons x y _ _ h _ b=>
  unfold ft at b⊢;rw[si,si,<-h.1]
  by_cases e:x.1=k
  ·rw[nn e];exact .inl (h.2.2.imp λ_ q=>⟨y.2.2,tA some q.1,rfl,q.2⟩)
  ·rw[no e];exact b
def bq(m:List Pl)(k:bS):List Int:=(ft m k).getD []
def gm(n:Nat)(ow:List (cg×V)):List Int:=((List.range n).filter λ(i:Nat)=>(bp ow (.inl (i:Int))).isNone).map λ(i:Nat)=>(i:Int)
inductive Mc(P:Sb)(w:World)(K:R7)(C:Addr)(vs:List V)(H:Hp)(Q:VK)(_E:XK):Prop|mk(t dx:Addr)(n:Nat)(_:vs=[.ref t,.int n])(_:H t=some (.ins C dx []))(_:H dx=some (.own t))(_:∀(od td:Addr)H',H od=none->H td=none->(∀b o,H b=some o->b≠t->H' b=some o)->eI P w K C H' t od td n [] [] []->Q .non H')
inductive Eo(P:Sb)(w:World)(K:R7)(C:Addr)(vs:List V)(H:Hp)(Q:VK)(_E:XK):Prop|mk(t od td:Addr)(n:Nat)(ow:List (cg×V))(tk:List iz)(m:List Pl)(p:Int)(_:vs=[.ref t,.int p])(_:eI P w K C H t od td n ow tk m)(_:Q ((bp ow (.inl p)).getD .non) H)
inductive BZ(P:Sb)(w:World)(K:R7)(C:Addr)(vs:List V)(H:Hp)(Q:VK)(_E:XK):Prop|mk(t od td:Addr)(n:Nat)(ow:List (cg×V))(tk:List iz)(m:List Pl)(k:bS)(kv:V)(_:vs=[.ref t,kv])(_:eI P w K C H t od td n ow tk m)(_:cN K H k kv)(_:∀(l:Addr)H',am H H'->H l=none->H' l=some (.lst ((bq m k).map V.int))->Q (.ref l) H')
inductive Mg(P:Sb)(w:World)(K:R7)(C:Addr)(vs:List V)(H:Hp)(Q:VK)(_E:XK):Prop|mk(t od td:Addr)(n:Nat)(ow:List (cg×V))(tk:List iz)(m:List Pl)(_:vs=[.ref t])(_:eI P w K C H t od td n ow tk m)(_:n<=1000)(_:∀(l:Addr)H',am H H'->H l=none->H' l=some (.lst ((gm n ow).map V.int))->Q (.ref l) H')
section
def tz(T:Txt K mg a):aO P w K mg base dk 1 a.dW.x a.dW.d ["self","many"] (Mc P w K a.bN):=by
 refine T.dW.ok sY λF A outer s H L Q E M h=>?_
 ·obtain⟨t,dx,n,rfl,G,N,q⟩:=h;refine⟨_,(ag (cu K rfl (Y 0) (Y 1)) (ag (cu K rfl (Y 0) kN) (ah (cu K rfl (Y 0) (Aw (P:=P) (w:=w)))))),?_⟩
  refine U rfl (U rfl ⟨t,_,dx,U rfl ⟨G,T.bf,T.nG,by decide,?_⟩⟩);have v:eL "many" (V.int n) []=([("many",V.int n)]:List (Str×V)):=rfl;rw[v];have i:aA H t (.ins a.bN dx [("many",V.int n)]) t=some (.ins a.bN dx [("many",V.int n)]):=ae;have f1:∀b o,H b=some o->b≠t->aA H t (.ins a.bN dx [("many",V.int n)]) b=some o:=λb o e j=>by rw[ak j];exact e
  generalize aA H t (.ins a.bN dx [("many",V.int n)])=u at i f1⊢;refineλc g=>(U rfl ⟨t,_,dx,U rfl ⟨by rw[ak (aD i g)];exact i,T.bf,T.ee,by simp,?_⟩⟩);have y:eL "owners" (V.ref c) [("many",V.int n)]=([("many",V.int n),("owners",V.ref c)]:List (Str×V)):=rfl;rw[y];have B:c≠t:=λz=>by rw[z,i]at g;cases g
  have k:aA (aA u c (.dK [])) t (.ins a.bN dx [("many",V.int n),("owners",V.ref c)]) t=some (.ins a.bN dx [("many",V.int n),("owners",V.ref c)]):=ae;have m:aA (aA u c (.dK [])) t (.ins a.bN dx [("many",V.int n),("owners",V.ref c)]) c=some (.dK []):=by rw[ak B];exact ae
  have f2:∀b o,H b=some o->b≠t->aA (aA u c (.dK [])) t (.ins a.bN dx [("many",V.int n),("owners",V.ref c)]) b=some o:=λb o e j=>by rw[ak j,ak (λz=>by rw[<-z,f1 b o e j]at g;cases g)];exact f1 b o e j
  generalize aA (aA u c (.dK [])) t (.ins a.bN dx [("many",V.int n),("owners",V.ref c)])=O at k m f2⊢;refineλl f=>(U rfl ⟨t,_,dx,U rfl ⟨by rw[ak (aD k f)];exact k,T.bf,T.gi,by simp,?_⟩⟩);have C:eL "taken" (V.ref l) [("many",V.int n),("owners",V.ref c)]=([("many",V.int n),("owners",V.ref c),("taken",V.ref l)]:List (Str×V)):=rfl;rw[C];have D:l≠t:=λz=>by rw[z,k]at f;cases f
  have I:c≠l:=λz=>by rw[<-z,m]at f;cases f
  have p:H c=none:=by cases z:H c with|none=>rfl|some o=>rw[f1 c o z B]at g;cases g
  have r:H l=none:=by cases z:H l with|none=>rfl|some o=>rw[f2 l o z D]at f;cases f
  refine q c l _ p r (λb o e j=>?_) ⟨⟨dx,ae⟩,by rw[ak B,ak I];exact m,by rw[ak D];exact ae,λx J=>(by cases J),.nil⟩;rw[ak j,ak (λz=>by rw[<-z,f2 b o e j]at f;cases f)];exact f2 b o e j
def dN(T:Txt K mg a):aO P w K mg base dk 1 a.aY.x a.aY.d ["self","owner"] (BZ P w K a.bN):=by
 refine T.aY.ok n9 λv A outer s H F Q E y h=>?_
 ·obtain⟨t,G,z,n,ow,tk,m,k,I,rfl,i,B,q⟩:=h;refine⟨_,(ah (ax (et (Dj K rfl) (by rfl) T.Hc L2.xU (ac (uS (P:=P) (w:=w) K rfl (ck y) (aG K rfl (Y 0)) (Y 1) (bn O) ⟨rfl,rfl,rfl,rfl⟩) O)))),?_⟩;obtain⟨dx,C⟩:=i.ins;refine U rfl ⟨t,_,dx,_,U rfl ⟨C,T.bf,T.gi,rfl,z,tk,rfl,i.tak,U rfl ⟨ls rfl,λg j=>?_⟩⟩⟩;have e:=aj (o:=.lst []) (am.refl H) j;have c:aA H g (.lst []) g=some (.lst []):=ae;generalize aA H g (.lst [])=J at e c⊢;have f:=i.same e;refine⟨tk,k,f.tak,f.keys,oH e B,?_⟩;rcases f.lsts.val k with⟨l,L,p,r,D⟩|⟨p,r⟩
  ·rw[p];refine⟨l,U rfl ⟨.inl (aX.of D),λu b=>q u _ (aj e b) (e.free b) ?_⟩⟩;unfold bq;rw[r];exact ae
  ·rw[p];refine⟨g,U rfl ⟨.inl (aX.of c),λu b=>q u _ (aj e b) (e.free b) ?_⟩⟩;unfold bq;rw[r];exact ae
def nD(T:Txt K mg a):aO P w K mg base dk 1 a.dU.x a.dU.d ["self"] (Mg P w K a.bN):=by
 refine T.dU.ok wy λp A outer s H y Q E r h=>?_
 ·obtain⟨t,z,B,n,ow,tk,m,rfl,j,hn,q⟩:=h;refine⟨_,(ah (ax (wc ["self"] ["place"] [] [1] (ai iP) (cw 1) (cP rfl T.dP (ac (aG K rfl (Y 0)) O)) (λcl C s₀ H₀ ex=>⟨(qL ["self"] ["place"] 1),(yE (oB (qM (ck r) (Y 1) (aG K rfl (Y 0))) rfl)),(Y 1)⟩)))),?_⟩
  obtain⟨dx,l⟩:=j.ins;refine U rfl ⟨t,_,dx,_,U rfl ⟨l,T.bf,T.nG,rfl,(n:Int),rfl,by lia,by lia,λD o=>?_⟩⟩;have g:∀b,am H (aA H D (.lst b)):=λb=>aj (am.refl _) o;refine eO (K:=K) (lo:=0) (n:=(n:Int).toNat) (λi b H'=>b=(gm i ow).map V.int/\H'=aA H D (.lst b)) ⟨rfl,rfl⟩ ?_ ?_
  ·rintro i b _ hi⟨rfl,rfl⟩;have u:((gm i ow).map V.int).length<=i:=by unfold gm;rw[c_,c_];exact n7 (v1 _ _) (by rw[rd];exact f_ _)
   have c:gm (i+1) ow=gm i ow++if(bp ow (.inl (i:Int))).isNone=true then[(i:Int)]else[]:=by
    unfold gm;rw[Ri,RB,k_]
    congr 1
    by_cases e:(bp ow (.inl (i:Int))).isNone=true
    ·simp[e]
    ·simp[e]
   rw[show(0:Int)+(i:Int)=((i:Nat):Int)by lia];refine aq (U rfl (U rfl ⟨t,_,dx,_,U rfl ⟨g _ _ _ l,T.bf,T.ee,rfl,rG _ (dG.k (k:=.inl (i:Int)) (g _ _ _ j.own)) (U rfl ?_)⟩⟩));have f:i<(n:Int).toNat:=hi;cases e:bp ow (.inl (i:Int))with|none=>refine bD (U rfl ⟨ae,by rw[lm];lia,lf f ⟨?_,by rw[fZ]⟩⟩);rw[c,e,k_];rfl|some v=>refine bV (lf f ⟨?_,rfl⟩);rw[c,e,k_];exact(B_ _).symm
  ·rintro b _⟨rfl,rfl⟩;have e:(n:Int).toNat=n:=by exact rfl
   rw[e];exact q D _ (g _) o ae
end
def Iz(c:List V)(h:0<=i):xb c (some i) none=c.drop i.toNat:=by
 show(c.drop (if i<0 then(i+(c.length:Int)).toNat else min i.toNat c.length)).take (c.length-(if i<0 then(i+(c.length:Int)).toNat else min i.toNat c.length))=c.drop i.toNat;rw[ku (by lia)];rcases Nat.le_total i.toNat c.length with b|b
 ·rw[Nat.min_eq_left b,mu (by rw[Qw];lia)]
 ·rw[Nat.min_eq_right b,List.drop_eq_nil_of_le (f_ _),List.drop_eq_nil_of_le b,List.take_nil]
def Dc(c:List V)(h:0<=i):xb c none (some i)=c.take i.toNat:=by
 show(c.drop 0).take ((if i<0 then(i+(c.length:Int)).toNat else min i.toNat c.length)-0)=c.take i.toNat;rw[ku (by lia),List.drop_zero,Nat.sub_zero];rcases Nat.le_total i.toNat c.length with b|b
 ·rw[Nat.min_eq_left b]
 ·rw[Nat.min_eq_right b,mu (f_ _),mu b]
def Eb(c:List (cg×V))(k j:cg):bp (dD c k) j=if j=k then none else bp c j:=by induction c with|nil=>split<;>rfl|cons p r f=>
  by_cases e:p.1=k
  ·rw[xP e,f]
   by_cases b:j=k
   ·rw[kw b,kw b]
   ·rw[ku b,ku b,bK (λz=>b (z.symm.trans e))]
  ·rw[xQ e]
   by_cases d:p.1=j
   ·rw[cz d,ku (λz=>e (d.trans z)),cz d]
   ·rw[bK d,f,bK d]
def tP(ow:List (cg×V))(c:Sh):List (cg×V):=c.foldl (λo p=>dD o (.inl p)) ow
def qw(c:Sh):∀(ow:List (cg×V))(j:Int),bp (tP ow c) (.inl j)=if j∈c then none else bp ow (.inl j):=by induction c with|nil=>intro ow j;rw[ku (by simp)];rfl|cons p r b=>
  intro ow j;show bp (tP (dD ow (.inl p)) r) (.inl j)=_;rw[b,Eb]
  by_cases h1:j∈r
  ·rw[kw h1,kw (k4 _ h1)]
  ·rw[ku h1]
   by_cases h2:j=p
   ·rw[kw (by rw[h2]),kw (by rw[h2];exact mm)]
   ·rw[ku (λz=>h2 (Sum.inl.inj z)),ku (λz=>(pw.mp z).elim h2 h1)]
def mJ(c d:Addr)(H H':Hp):Prop:=∀b o,H b=some o->b≠c->b≠d->H' b=some o
def mJ.of(h:am H H'):mJ c d H H':=λb o e _ _=>h b o e
def mJ.trans(a:mJ d e H f)(b:mJ d e f g):mJ d e H g:=λc o h h1 h2=>b c o (a c o h h1 h2) h1 h2
def mJ.tp(h:mJ c d H H')(h1:H c=some (.dK f))(h2:H d=some (.ext φ))(e:H b=some (.tup g)):H' b=some (.tup g):=h b _ e (λz=>by rw[z,h1]at e;cases e) (λz=>by rw[z,h2]at e;cases e)
def eu(h:mJ c d H H')(h1:H c=some (.dK f))(h2:H d=some (.ext φ))(g:cN K H k v):cN K H' k v:=by exact dC ⟨λu i e=>h.tp h1 h2 e,λu o⟨b,e⟩=>⟨b,h u _ e (λz=>by rw[z,h1]at e;cases e) (λz=>by rw[z,h2]at e;cases e)⟩⟩ g
def fe.off(h:mJ c d H H')(h1:H c=some (.dK f))(h2:H d=some (.ext φ))(t:fe H tk m):fe H' tk m:=Paired.mapP t λ_ _ q=>⟨q.1,q.2.1,q.2.2.imp λ_ e=>⟨e.1,h _ _ e.2 (λz=>by rw[z,h1]at e;cases e.2) (λz=>by rw[z,h2]at e;cases e.2)⟩⟩
def fe.put(d:H l=some (.lst (f.map V.int))):∀{tk:List iz}{m:List Pl},fe H tk m->fe H (fB tk k j (.ref l)) (fB m k j f):=by
 intro tk m h;have b:(ft tk k).isSome=(ft m k).isSome:=by rcases h.val k with⟨l,f,g,i,_⟩|⟨g,i⟩<;>rw[g,i]<;>rfl
 unfold fB;rw[b]
 split
 ·rename_i hc;clear b hc
  induction h with|nil=>exact .nil|@cons x y n o r t c=>
   refine .cons ?_ c;dsimp only;rw[<-r.1]
   by_cases e:x.1=k
   ·rw[kw e,kw e];exact⟨rfl,r.2.1,l,rfl,d⟩
   ·rw[ku e,ku e];exact r
 ·rename_i hc;clear b hc
  induction h with|nil=>exact .cons ⟨rfl,rfl,l,rfl,d⟩ .nil|cons r t c=>exact .cons r c
def fj(H:Hp)(tk c:List iz):Prop:=∀x∈c,(∃y∈tk,y.2.2=x.2.2)\/∃l,x.2.2=.ref l/\H l=none
def fj.put(c:H l=none):fj H tk (fB tk k e (.ref l)):=by
 intro x b;unfold fB at b
 split at b
 ·obtain⟨y,d,rfl⟩:=nk.mp b
  split
  ·exact .inr ⟨l,rfl,c⟩
  ·exact .inl ⟨y,d,rfl⟩
 ·rcases List.mem_append.mp b with b|b
  ·exact .inl ⟨x,b,rfl⟩
  ·rw[List.mem_singleton.mp b];exact .inr ⟨l,rfl,c⟩
def pD(h:mJ c d H H')(h1:H' c≠none)(h2:H' d≠none)(e:H' b=none):H b=none:=by cases z:H b with|none=>rfl|some o=>have:=h b o z (λq=>h1 (by rw[<-q];exact e)) (λq=>h2 (by rw[<-q];exact e));rw[e]at this;cases this
inductive Me(P:Sb)(w:World)(K:R7)(C:Addr)(vs:List V)(H:Hp)(Q:VK)(_E:XK):Prop|mk(t od td:Addr)(n:Nat)(ow:List (cg×V))(tk:List iz)(m:List Pl)(k:bS)(kv:V)(num:Int)(_:vs=[.ref t,kv,.int num])(_:eI P w K C H t od td n ow tk m)(_:cN K H k kv)(_:0<=num)(_:tk.length<100000)(_:(∀p∈(bq m k).drop num.toNat,(bp ow (.inl p)).isSome=true))(_:(bq m k).Nodup)(_:∀(l:Addr)(tk':List iz)H',mJ od td H H'->H l=none->H' l=some (.lst (((bq m k).drop num.toNat).reverse.map V.int))->tk'.length<=tk.length+1->fj H tk tk'->eI P w K C H' t od td n (tP ow ((bq m k).drop num.toNat).reverse) tk' (fB m k kv ((bq m k).take num.toNat))->Q (.ref l) H')
def u7(c:List (bS×d×e))(k:bS)(b:d)(v:e):(fB c k b v).length<=c.length+1:=by
 unfold fB
 split
 ·rw[c_];lia
 ·rw[kt];simp
def dF.put(h:dF K H tk)(d:cN K H k e):dF K H (fB tk k e v):=by
 unfold fB
 split
 ·intro x b;obtain⟨y,c,rfl⟩:=nk.mp b
  split
  ·exact h y c
  ·exact h y c
 ·intro x b;rcases List.mem_append.mp b with b|b
  ·exact h x b
  ·rw[List.mem_singleton.mp b];exact d
section
def oC(T:Txt K mg a):aO P w K mg base dk 2 a.cK.x a.cK.d ["self","owner","number"] (Me P w K a.bN):=by
 refine T.cK.ok dJ λbz A outer s H vs Q E hr h=>?_
 ·obtain⟨t,M,u,n,ow,tk,m,k,kv,c,rfl,g,hk,N,b0,R,an,q⟩:=h;refine⟨_,(ag (bg 3 dJ.nd (bo (Y 0) T.bf T.aY.m ((dN (P:=P) (w:=w) T).mono (by decide)) hr T.aY.b .nil bh (ac (Y 1) O))) (ag (bg 4 dJ.nd (Cg K rfl rfl (by rfl) T.Hc (by rfl) T.Cs (gf (ur K rfl) (Y 3) (iR (Y 2)) iS))) (ag (dy o_ rfl (d8 K rfl (Y 4)) (qK 5 dJ.nd) (ah (aR (Av (aG K rfl (Y 0)) (Y 5) ⟨rfl,rfl,rfl,rfl⟩)))) (ag (ki (gf (ur K rfl) (Y 3) iS (iR (Y 2))) (kj (aG K rfl (Y 0)) (Y 1) (B4 (P:=P) (w:=w) K rfl (ck hr)))) (ah (ax (Y 4))))))),?_⟩
  obtain⟨dx,hI⟩:=g.ins;refine nh hI rfl rfl (U rfl ⟨t,M,u,n,ow,tk,m,k,kv,rfl,g,hk,λlp H1 s1 b8 I=>aq ?_⟩);have b9:=g.same s1;generalize bq m k=C at R an q I⊢;refine U rfl (U rfl ⟨c,rfl,lp,U rfl ⟨aX.of I,λl2 ap=>?_⟩⟩);rw[Iz _ N,<-List.map_drop];have s2:=aj (o:=.lst ((C.drop c.toNat).map V.int)) s1 ap;have S:aA H1 l2 (.lst ((C.drop c.toNat).map V.int)) l2=some (.lst ((C.drop c.toNat).map V.int)):=ae;have D:aA H1 l2 (.lst ((C.drop c.toNat).map V.int)) lp=some (.lst (C.map V.int)):=by rw[ak (aD I ap)];exact I
  generalize aA H1 l2 (.lst ((C.drop c.toNat).map V.int))=H2 at s2 S D⊢;refine⟨l2,U rfl ⟨aX.of S,λW ad=>aq ?_⟩⟩;rw[<-List.map_reverse];generalize as:(C.drop c.toNat).reverse=bk at q⊢;have s3:=aj (o:=.lst (bk.map V.int)) s2 ad;have l:aA H2 W (.lst (bk.map V.int)) W=some (.lst (bk.map V.int)):=ae;have F:aA H2 W (.lst (bk.map V.int)) lp=some (.lst (C.map V.int)):=by rw[ak (aD D ad)];exact D
  generalize aA H2 W (.lst (bk.map V.int))=H3 at s3 l F⊢;have r:=g.same s3;obtain⟨al,J⟩:=r.ins;have a8:H W=none:=s2.free ad;have ba:bk.Nodup:=by rw[<-as];exact(List.reverse_perm _).nodup_iff.mpr ((List.drop_sublist _ _).nodup an)
  have bb:∀p∈bk,(bp ow (.inl p)).isSome=true:=λp X=>R p (by rw[<-as]at X;exact Qv.mp X);have ne:∀{b:Addr}{o:HO},H3 b=some o->(∀bc,o≠.dK bc)->(∀φ,o≠.ext φ)->b≠M/\b≠u:=λe h1 h2=>⟨λz=>by rw[z,r.own]at e;cases e;exact h1 _ rfl,λz=>by rw[z,r.tak]at e;cases e;exact h2 _ rfl⟩;have G:=ne l (λ_ z=>nomatch z) (λ_ z=>nomatch z);have a0:=ne F (λ_ z=>nomatch z) (λ_ z=>nomatch z);have nt:=ne J (λ_ z=>nomatch z) (λ_ z=>nomatch z);have a2:u≠M:=λz=>by have e:=r.tak;rw[z,r.own]at e;cases e
  refine U rfl ⟨W,rfl,⟨_,aX.of l⟩,?_⟩;refine gn (xs:=bk.map V.int) (λi σ H'=>mJ M u H3 H'/\H' M=some (.dK (tP ow (bk.take i)))/\H' u=some (dM P w u tk)/\∃v5,σ=[some (.ref t),some kv,some (.int c),some (.ref lp),some (.ref W),v5]) ⟨.of (am.refl _),r.own,r.tak,_,rfl⟩ (λi σ H' _ h=>aX.of (h.1 _ _ l G.1 G.2)) ?_ ?_
  ·rintro i x σ H4 Z⟨L,f,y,v5,rfl⟩;have hi:i<bk.length:=by simpa using(d_.mp Z).1
   have X:bk[i]?=some bk[i]:=h_ hi;rw[j_,X]at Z;generalize bk[i]=p at Z X;cases Z;have bi:p∉bk.take i:=λz=>by
    obtain⟨j,hj⟩:=m3.mp z;have bj:j<i:=by have:=(d_.mp hj).1;rw[oe]at this;lia
    rw[QY bj]at hj;have:=(Qp (d_.mp hj).1 ba).mp (hj.trans X.symm);lia
   obtain⟨v,hv⟩:=Qh.mp (bb p (i_ X));have bl:bp (tP ow (bk.take i)) (.inl p)=some v:=by rw[qw,ku bi];exact hv
   have hg:tP ow (bk.take (i+1))=dD (tP ow (bk.take i)) (.inl p):=by unfold tP;rw[yl,X,M_];rfl
   refine aq (U rfl ⟨t,_,al,_,U rfl ⟨L _ _ J nt.1 nt.2,T.bf,T.ee,rfl,M,rfl,.inl ⟨_,.inl f⟩,U rfl ⟨_,.inl p,v,f,rfl,bl,?_⟩⟩⟩);refine⟨λb o e h1 h2=>by rw[ak h1];exact L b o e h1 h2,by rw[hg];exact ae,by rw[ak a2];exact y,_,rfl⟩
  ·rintro σ H4⟨L,f,y,v5,rfl⟩;rw[c_,mu (f_ _)]at f;have a3:=L _ _ F a0.1 a0.2;refine U rfl (U rfl ⟨c,rfl,lp,U rfl ⟨aX.of a3,λl5 a5=>?_⟩⟩);rw[Dc _ N,<-Rz];have s5:=aj (o:=.lst ((C.take c.toNat).map V.int)) (am.refl H4) a5;have B:aA H4 l5 (.lst ((C.take c.toNat).map V.int)) l5=some (.lst ((C.take c.toNat).map V.int)):=ae;generalize aA H4 l5 (.lst ((C.take c.toNat).map V.int))=H5 at s5 B⊢;have o5:mJ M u H H5:=(mJ.of s3).trans (L.trans (.of s5));have aa:=s5 _ _ y;have bt:=eu o5 g.own g.tak hk;have a6:dF K H5 tk:=λx Z=>eu o5 g.own g.tak (g.keys x Z);have n5:l5≠u:=λz=>by rw[z,aa]at B;cases B
   refine U rfl ⟨t,_,al,_,U rfl ⟨s5 _ _ (L _ _ J nt.1 nt.2),T.bf,T.gi,rfl,U rfl ⟨u,tk,k,rfl,aa,a6,bt,by rw[lm];lia,U rfl ?_⟩⟩⟩;have o6:mJ M u H (aA H5 u (dM P w u (fB tk k kv (.ref l5)))):=λb o e h1 h2=>by rw[ak h2];exact o5 b o e h1 h2
   have bv:aA H5 u (dM P w u (fB tk k kv (.ref l5))) l5=some (.lst ((C.take c.toNat).map V.int)):=by rw[ak n5];exact B
   have a7:H l5=none:=pD ((mJ.of s3).trans L) (by rw[f];simp) (by rw[y];simp) a5;refine q W _ _ o6 a8 (by rw[ak G.2];exact s5 _ _ (L _ _ l G.1 G.2)) (u7 _ _ _ _) (fj.put a7) ⟨⟨al,by rw[ak nt.2];exact s5 _ _ (L _ _ J nt.1 nt.2)⟩,by rw[ak (pv a2)];exact s5 _ _ f,ae,?_,?_⟩
   ·exact dF.put (λx Z=>eu o6 g.own g.tak (g.keys x Z)) (eu o6 g.own g.tak hk)
   ·exact fe.put bv (g.lsts.off o6 g.own g.tak)
end
def mF(ow:List (cg×V))(c:V)(d:Sh):List (cg×V):=d.foldl (λo p=>eY o (.inl p) c) ow
def uf(c:V)(d:Sh):∀(ow:List (cg×V))(j:Int),bp (mF ow c d) (.inl j)=if j∈d then some c else bp ow (.inl j):=by induction d with|nil=>intro ow j;rw[ku (by simp)];rfl|cons p r b=>
  intro ow j;show bp (mF (eY ow (.inl p) c) c r) (.inl j)=_;rw[b,FT]
  by_cases h1:j∈r
  ·rw[kw h1,kw (k4 _ h1)]
  ·rw[ku h1]
   by_cases h2:j=p
   ·rw[kw (by rw[h2]),kw (by rw[h2];exact mm)]
   ·rw[ku (λz=>h2 (Sum.inl.inj z)),ku (λz=>(pw.mp z).elim h2 h1)]
def xL(c:V)(d:Sh):∀(ow:List (cg×V)),(mF ow c d).length<=ow.length+d.length:=by induction d with|nil=>intro ow;exact f_ _|cons p r b=>intro ow;have h1:=b (eY ow (.inl p) c);have h2:=mE ow (.inl p) c;show(mF (eY ow (.inl p) c) c r).length<=_;rw[ol];lia
def C5(n:Nat)(ow:List (cg×V)):(gm n ow).length<=n:=by unfold gm;rw[c_];exact n7 (v1 _ _) (by rw[rd];exact f_ _)
inductive L4(P:Sb)(w:World)(K:R7)(C:Addr)(vs:List V)(H:Hp)(Q:VK)(_E:XK):Prop|mk(t od td:Addr)(n:Nat)(ow:List (cg×V))(tk:List iz)(m:List Pl)(k:bS)(kv:V)(num:Int)(_:vs=[.ref t,kv,.int num])(_:eI P w K C H t od td n ow tk m)(_:cN K H k kv)(_:n<=1000)(_:((bq m k).length:Int)<=num)(_:(bq m k).length<=1000000)(_:tk.length<100000)(_:ow.length<1000000)(_:∀(tk':List iz)H',mJ od td H H'->tk'.length<=tk.length+1->fj H tk tk'->eI P w K C H' t od td n (mF ow kv ((gm n ow).take (num-(bq m k).length).toNat)) tk' (fB m k kv (bq m k++(gm n ow).take (num-(bq m k).length).toNat))->Q .non H')
section
def wH(T:Txt K mg a):aO P w K mg base dk 2 a.fH.x a.fH.d ["self","owner","number"] (L4 P w K a.bN):=by
 refine T.fH.ok ia λbt A outer s H vs Q E hr h=>?_
 ·obtain⟨t,D,l,n,ow,tk,m,k,F,G,rfl,f,hk,hn,aa,a7,bv,bz,q⟩:=h;refine⟨_,(ag (bg 3 ia.nd (bo (Y 0) T.bf T.aY.m ((dN (P:=P) (w:=w) T).mono (by decide)) hr T.aY.b .nil bh (ac (Y 1) O))) (ag (bg 4 ia.nd (gf (ur K rfl) (kM (Y 0) T.bf T.dU.m ((nD (P:=P) (w:=w) T).mono (by decide)) hr T.dU.b .nil bh) iS (iR (av fq (Y 2) (ay (aH K rfl) (by rfl) T.bE L2.aI (ac (Y 3) O)))))) (ag (dy o_ rfl (d8 K rfl (Y 4)) (qK 5 ia.nd) (ah (ki (Y 1) (kj (aG K rfl (Y 0)) (Y 5) (qC (ck hr)))))) (ah (ki (av yJ (Y 3) (Y 4)) (kj (aG K rfl (Y 0)) (Y 1) (B4 (P:=P) (w:=w) K rfl (ck hr)))))))),?_⟩
  obtain⟨dx,hI⟩:=f.ins;refine nh hI rfl rfl (U rfl ⟨t,D,l,n,ow,tk,m,k,F,rfl,f,hk,λlp H1 s1 b0 ad=>aq ?_⟩);have a8:=f.same s1;generalize bq m k=C at aa a7 q ad⊢;refine nh (s1 _ _ hI) rfl rfl ⟨t,D,l,n,ow,tk,m,rfl,a8,hn,λba H2 s2 b8 al=>?_⟩;have bb:=C5 n ow;generalize gm n ow=fs at bb al q;have y:=s2 _ _ ad;refine U rfl (U rfl ⟨_,C.length,rfl,.inl ⟨_,aX.of y,by rw[c_]⟩,G,(C.length:Int),rfl,rfl,G-(C.length:Int),rfl,ba,U rfl ⟨aX.of al,λS an=>aq ?_⟩⟩);rw[Dc _ (by omega),<-Rz];generalize bc:fs.take (G-(C.length:Int)).toNat=c at q⊢;have b9:c.length<=1000:=by rw[<-bc,oe];omega
  have s3:=aj (o:=.lst (c.map V.int)) (s1.trans s2) an;have g:aA H2 S (.lst (c.map V.int)) S=some (.lst (c.map V.int)):=ae;have B:aA H2 S (.lst (c.map V.int)) lp=some (.lst (C.map V.int)):=by rw[ak (aD y an)];exact y
  generalize aA H2 S (.lst (c.map V.int))=H3 at s3 g B⊢;have r:=f.same s3;obtain⟨W,I⟩:=r.ins;have ne:∀{b:Addr}{o:HO},H3 b=some o->(∀bi,o≠.dK bi)->(∀φ,o≠.ext φ)->b≠D/\b≠l:=λe h1 h2=>⟨λz=>by rw[z,r.own]at e;cases e;exact h1 _ rfl,λz=>by rw[z,r.tak]at e;cases e;exact h2 _ rfl⟩;have J:=ne g (λ_ z=>nomatch z) (λ_ z=>nomatch z);have ap:=ne B (λ_ z=>nomatch z) (λ_ z=>nomatch z);have X:=ne I (λ_ z=>nomatch z) (λ_ z=>nomatch z);have as:l≠D:=λz=>by have e:=r.tak;rw[z,r.own]at e;cases e
  refine U rfl ⟨S,rfl,⟨_,aX.of g⟩,?_⟩;refine gn (xs:=c.map V.int) (λi σ H'=>mJ D l H3 H'/\H' D=some (.dK (mF ow F (c.take i)))/\H' l=some (dM P w l tk)/\∃v5,σ=[some (.ref t),some F,some (.int G),some (.ref lp),some (.ref S),v5]) ⟨.of (am.refl _),r.own,r.tak,_,rfl⟩ (λi σ H' _ h=>aX.of (h.1 _ _ g J.1 J.2)) ?_ ?_
  ·rintro i x σ H4 M⟨L,j,u,v5,rfl⟩;have hi:i<c.length:=by simpa using(d_.mp M).1
   have hp:c[i]?=some c[i]:=h_ hi;rw[j_,hp]at M;generalize c[i]=p at M hp;cases M;have hg:mF ow F (c.take (i+1))=eY (mF ow F (c.take i)) (.inl p) F:=by unfold mF;rw[yl,hp,M_];rfl
   have cc:=xL F (c.take i) ow;have ci:=List.length_take_le i c;refine aq (U rfl (U rfl ⟨t,_,W,_,U rfl ⟨L _ _ I X.1 X.2,T.bf,T.ee,rfl,U rfl ⟨D,_,.inl p,rfl,rfl,j,by rw[lm];omega,?_⟩⟩⟩));refine⟨λb o e h1 h2=>by rw[ak h1];exact L b o e h1 h2,by rw[hg];exact ae,by rw[ak as];exact u,_,rfl⟩
  ·rintro σ H4⟨L,j,u,v5,rfl⟩;rw[c_,mu (f_ _)]at j;have a0:=L _ _ B ap.1 ap.2;have a2:=L _ _ g J.1 J.2;refine U rfl (U rfl ⟨lp,S,_,U rfl ⟨rfl,a0,a2,by rw[c_,c_,lm];lia,λN a3=>?_⟩⟩);rw[<-k_];have Z:=aj (o:=.lst ((C++c).map V.int)) (am.refl H4) a3;have v:aA H4 N (.lst ((C++c).map V.int)) N=some (.lst ((C++c).map V.int)):=ae;generalize aA H4 N (.lst ((C++c).map V.int))=H5 at Z v⊢;have o5:mJ D l H H5:=(mJ.of s3).trans (L.trans (.of Z));have R:=Z _ _ u;have bj:=eu o5 f.own f.tak hk;have a5:dF K H5 tk:=λx M=>eu o5 f.own f.tak (f.keys x M);have n5:N≠l:=λz=>by rw[z,R]at v;cases v
   refine U rfl ⟨t,_,W,_,U rfl ⟨Z _ _ (L _ _ I X.1 X.2),T.bf,T.gi,rfl,U rfl ⟨l,tk,k,rfl,R,a5,bj,by rw[lm];omega,?_⟩⟩⟩;have o6:mJ D l H (aA H5 l (dM P w l (fB tk k F (.ref N)))):=λb o e h1 h2=>by rw[ak h2];exact o5 b o e h1 h2
   have bl:aA H5 l (dM P w l (fB tk k F (.ref N))) N=some (.lst ((C++c).map V.int)):=by rw[ak n5];exact v
   have a6:H N=none:=pD ((mJ.of s3).trans L) (by rw[j];simp) (by rw[u];simp) a3;refine q _ _ o6 (u7 _ _ _ _) (fj.put a6) ⟨⟨W,by rw[ak X.2];exact Z _ _ (L _ _ I X.1 X.2)⟩,by rw[ak (pv as)];exact Z _ _ j,ae,?_,?_⟩
   ·exact dF.put (λx M=>eu o6 f.own f.tak (f.keys x M)) (eu o6 f.own f.tak hk)
   ·exact fe.put bl (f.lsts.off o6 f.own f.tak)
end
structure AS where
 pl:bS->List Int
 oc:Int->Bool
def pN(n:Nat)(oc:Int->Bool):List Int:=((List.range n).filter λ(i:Nat)=>!oc (i:Int)).map λ(i:Nat)=>(i:Int)
def AS.give(s:AS)(k:bS)(c:Nat):AS:=⟨λj=>if j=k then(s.pl k).take c else s.pl j,λp=>if p∈(s.pl k).drop c then false else s.oc p⟩
def AS.took(s:AS)(n:Nat)(k:bS)(c:Nat):AS:=⟨λj=>if j=k then s.pl k++(pN n s.oc).take (c-(s.pl k).length)else s.pl j,λp=>if p∈(pN n s.oc).take (c-(s.pl k).length)then true else s.oc p⟩
structure AS.Ok(n:Nat)(s:AS):Prop where
 in_:∀k p,p∈s.pl k->0<=p/\p<n/\s.oc p=true
 dj:∀k j p,p∈s.pl k->p∈s.pl j->k=j
 nd:∀k,(s.pl k).Nodup
def AS.new:AS:=⟨λ_=>[],λ_=>false⟩
def AS.new_ok(n:Nat):AS.new.Ok n:=⟨λ_ _ h=>(nomatch h),λ_ _ _ h=>(nomatch h),λ_=>QM⟩
def KR:p∈pN n oc↔0<=p/\p<n/\oc p=false:=by
 unfold pN;rw[nk]
 constructor
 ·rintro⟨i,hi,rfl⟩;obtain⟨h1,h2⟩:=zz.mp hi;have:=q_.mp h1;exact⟨by exact tx _,by exact Int.ofNat_lt.mpr this,by simpa using h2⟩
 ·rintro⟨h1,h2,h3⟩;refine⟨p.toNat,zz.mpr ⟨q_.mpr (by lia),?_⟩,by exact Ry h1⟩;rw[show((p.toNat:Nat):Int)=p by exact Ry h1,h3];rfl
def M0(n:Nat)(oc:Int->Bool):(pN n oc).Nodup:=by unfold pN;rw[P_,List.pairwise_map];exact(P_.mp (List.filter_sublist.nodup List.nodup_range)).imp λh=>by lia
def M3(n:Nat)(oc:Int->Bool):(pN n oc).length<=n:=by unfold pN;rw[c_];exact n7 (v1 _ _) (by rw[rd];exact f_ _)
theorem AS.Ok.give{n:Nat}{s:AS}(h:s.Ok n)(k:bS)(c:Nat):(s.give k c).Ok n:=by
 have f:∀p,p∈(s.pl k).take c->p∉(s.pl k).drop c:=λp h1 h2=>by have:=h.nd k;rw[<-vu c (s.pl k),rr]at this;exact this.2.2 p h1 p h2 rfl
 have sub:∀j p,p∈(s.give k c).pl j->p∈s.pl j:=λj p d=>by
  have d:p∈(if j=k then(s.pl k).take c else s.pl j):=d
  split at d
  ·rename_i e;rw[e];exact QC d
  ·exact d
 refine⟨λj p d=>?_,λj i p h1 h2=>h.dj j i p (sub j p h1) (sub i p h2),λj=>?_⟩
 ·obtain⟨a,b,e⟩:=h.in_ j p (sub j p d);refine⟨a,b,?_⟩;show(if p∈(s.pl k).drop c then false else s.oc p)=true;rw[ku,e];intro z;have d:p∈(if j=k then(s.pl k).take c else s.pl j):=d
  split at d
  ·exact f p d z
  ·rename_i g;exact g (h.dj j k p d (List.mem_of_mem_drop z))
 ·show(if j=k then(s.pl k).take c else s.pl j).Nodup
  split
  ·exact(QT _ _).nodup (h.nd k)
  ·exact h.nd j
theorem AS.Ok.took{n:Nat}{s:AS}(h:s.Ok n)(k:bS)(c:Nat):(s.took n k c).Ok n:=by
 have fr:∀p∈(pN n s.oc).take (c-(s.pl k).length),0<=p/\p<n/\s.oc p=false:=λp f=>KR.mp (QC f);have g:((pN n s.oc).take (c-(s.pl k).length)).Nodup:=(QT _ _).nodup (M0 _ _);unfold AS.took;generalize(pN n s.oc).take (c-(s.pl k).length)=l at fr g;have d:∀j p,p∈(if j=k then s.pl k++l else s.pl j)->p∈s.pl j\/(j=k/\p∈l):=λj p f=>by
  split at f
  ·rename_i e;rcases List.mem_append.mp f with z|z
   ·rw[e];exact .inl z
   ·exact .inr ⟨e,z⟩
  ·exact .inl f
 refine⟨λj p f=>?_,λj i p h1 h2=>?_,λj=>?_⟩
 ·show 0<=p/\p<n/\(if p∈l then true else s.oc p)=true;rcases d j p f with z|⟨_,z⟩
  ·obtain⟨a,b,e⟩:=h.in_ j p z;refine⟨a,b,?_⟩
   split
   ·rfl
   ·exact e
  ·exact⟨(fr p z).1,(fr p z).2.1,by rw[kw z]⟩
 ·rcases d j p h1 with z|⟨m,z⟩<;>rcases d i p h2 with y|⟨o,y⟩
  ·exact h.dj j i p z y
  ·have:=(h.in_ j p z).2.2;rw[(fr p y).2.2]at this;cases this
  ·have:=(h.in_ i p y).2.2;rw[(fr p z).2.2]at this;cases this
  ·rw[m,o]
 ·show(if j=k then s.pl k++l else s.pl j).Nodup
  split
  ·rw[rr];refine⟨h.nd k,g,λa q b r z=>?_⟩;subst z;have h1:=(h.in_ k a q).2.2;rw[(fr a r).2.2]at h1;cases h1
  ·exact h.nd j
abbrev Wl:=List (bS×Int)
def cI(s:AS)(W:Wl):AS:=W.foldl (λs x=>s.give x.1 x.2.toNat) s
def dq:AS->Wl->List Int|_,[]=>[]|s,x::r=>((s.pl x.1).drop x.2.toNat).reverse++dq (s.give x.1 x.2.toNat) r
def cZ(n:Nat)(s:AS)(W:Wl):AS:=W.foldl (λs x=>s.took n x.1 x.2.toNat) s
def jW(s:AS)(W:Wl):Int:=(W.map λx=>x.2-((s.pl x.1).length:Int)).sum
def zi(s:AS)(W:Wl)(x:bS×Int):cI s (W++[x])=(cI s W).give x.1 x.2.toNat:=by unfold cI;rw[M_];rfl
theorem pR:∀(W:Wl)(s:AS)(x:bS×Int),dq s (W++[x])=dq s W++(((cI s W).pl x.1).drop x.2.toNat).reverse|[],s,x=>by show _++[]=[]++_;rw[B_,List.nil_append];rfl|y::r,s,x=>by show _++dq _ (r++[x])=(_++dq _ r)++_;rw[pR r,QW];rfl
def yo(n:Nat)(s:AS)(W:Wl)(x:bS×Int):cZ n s (W++[x])=(cZ n s W).took n x.1 x.2.toNat:=by unfold cZ;rw[M_];rfl
theorem jo{n:Nat}:∀(W:Wl){s:AS},s.Ok n->(cI s W).Ok n|[],_,h=>h|x::r,_,h=>jo r (h.give x.1 x.2.toNat)
theorem ld{n:Nat}:∀(W:Wl){s:AS},s.Ok n->(cZ n s W).Ok n|[],_,h=>h|x::r,_,h=>ld r (h.took x.1 x.2.toNat)
def Cr(s:AS)(x:bS×Int)(W:Wl):jW s (x::W)=(x.2-((s.pl x.1).length:Int))+jW s W:=by unfold jW;rw[oD,List.sum_cons]
def yP{n:Nat}{c:Sh}(h:c.Nodup)(d:∀p∈c,0<=p/\p<n):c.length<=n:=by
 have:=G7 (l:=c) (m:=(List.range n).map λ(i:Nat)=>(i:Int)) h λp b=>by obtain⟨h1,h2⟩:=d p b;exact nk.mpr ⟨p.toNat,q_.mpr (by lia),by exact Ry h1⟩
 rw[c_,rd]at this;exact this
def Nj(K:R7)(H:Hp)(d:List V)(W:Wl):Prop:=Paired (λ(v:V)(x:bS×Int)=>∃b c,v=.ref b/\aW K H b [c,.int x.2]/\cN K H x.1 c) d W
def Nj.get(h:Nj K H d W)(i:Nat)(v:V)(e:d[i]?=some v):∃x,W[i]?=some x/\∃b c,v=.ref b/\aW K H b [c,.int x.2]/\cN K H x.1 c:=Paired.at_ h i v e
def G4(h:mJ d f H H')(h1:H d=some (.dK g))(h2:H f=some (.ext φ))(e:aW K H b c):aW K H' b c:=by have kp:Kp H H':=⟨λu c e=>h.tp h1 h2 e,λu o⟨i,e⟩=>⟨i,h u _ e (λz=>by rw[z,h1]at e;cases e) (λz=>by rw[z,h2]at e;cases e)⟩⟩;exact kp.tq e
def eI.list(h:eI P w K C H t i j n ow tk m)(d:H c=some (.lst bs))(f:∀x∈tk,x.2.2≠.ref c):eI P w K C (aA H c (.lst cs)) t i j n ow tk m:=by
 obtain⟨dx,b⟩:=h.ins;have kp:Kp H (aA H c (.lst cs)):=.lst d;refine⟨⟨dx,by rw[ak (λz=>by rw[z,d]at b;cases b)];exact b⟩,by rw[ak (λz=>by have e:=h.own;rw[z,d]at e;cases e)];exact h.own,by rw[ak (λz=>by have e:=h.tak;rw[z,d]at e;cases e)];exact h.tak,λx k=>?_,?_⟩
 ·exact dC kp (h.keys x k)
 ·have go:∀{tk:List iz}{m:List Pl},fe H tk m->(∀x∈tk,x.2.2≠.ref c)->fe (aA H c (.lst cs)) tk m:=by
   intro tk m h f
   induction h with|nil=>exact .nil|@cons x y v A r t o=>obtain⟨p,q,l,g,s⟩:=r;refine .cons ⟨p,q,l,g,?_⟩ (o λz u=>f z (k4 _ u));rw[ak (λz=>f x mm (by rw[g,z]))];exact s
  exact go h.lsts f
theorem fe.at_(h:fe H tk m)(i:Nat)(x:iz)(e:tk[i]?=some x):∃y:Pl,m[i]?=some y/\∃l,x.2.2=.ref l/\H l=some (.lst (y.2.2.map V.int)):=(Paired.at_ h i x e).imp λ_ q=>⟨q.1,q.2.2.2⟩
def HW(c:Sh):∀(ow:List (cg×V)),(tP ow c).length<=ow.length:=by induction c with|nil=>intro ow;exact f_ _|cons p r b=>intro ow;exact n7 (b _) (Bo ow (.inl p))
def A8(f:List (bS×g×h))(k j:bS)(b:g)(v:h):ft (fB f k b v) j=if j=k then some v else ft f j:=by
 have d:∀c:List (bS×g×h),ft (c.map λy=>if y.1=k then(y.1,y.2.1,v)else y) j=(ft c j).map λx=>if j=k then v else x:=by
  intro c
  induction c with|nil=>rfl|cons z r m=>
   unfold ft at m⊢;rw[oD,si,si];have i:(if z.1=k then(z.1,z.2.1,v)else z).1=z.1:=by split<;>rfl
   rw[i]
   by_cases e:z.1=j
   ·rw[nn e];show some (if z.1=k then(z.1,z.2.1,v)else z).2.2=some (if j=k then v else z.2.2);rw[e]
    split<;>rfl
   ·rw[no e];exact m
 have l:∀c:List (bS×g×h),ft c k=none->ft (c++[(k,b,v)]) j=if j=k then some v else ft c j:=by
  intro c i;unfold ft at i⊢;rw[List.find?_append]
  by_cases e:j=k
  ·subst e;rw[kw rfl,Option.map_eq_none_iff.mp i];simp
  ·rw[ku e];have:List.find? (λy:bS×g×h=>decide (y.1=j)) [(k,b,v)]=none:=by simp[pv e]
   rw[this,Option.or_none]
 unfold fB
 by_cases hc:(ft f k).isSome=true
 ·rw[kw hc,d]
  by_cases e:j=k
  ·subst e;obtain⟨x,n⟩:=Qh.mp hc;rw[n,kw rfl];simp
  ·rw[ku e];simp[e]
 ·rw[ku hc];exact l f (by simpa using hc)
def jH(n:Nat)(s:AS)(ow:List (cg×V))(m:List Pl):Prop:=(∀k,bq m k=s.pl k)/\∀p:Int,0<=p->p<n->(bp ow (.inl p)).isSome=s.oc p
def iU(m:List Pl)(k j:bS)(d:V)(c:Sh):bq (fB m k d c) j=if j=k then c else bq m j:=by
 unfold bq;rw[A8]
 split<;>rfl
def jH.free(h:jH n s ow m):gm n ow=pN n s.oc:=by
 unfold gm pN
 congr 1
 refine List.filter_congr λi hi=>?_;have:=q_.mp hi;rw[<-h.2 i (by exact tx _) (by exact Int.ofNat_lt.mpr this)];cases bp ow (.inl (i:Int))<;>rfl
theorem jH.give(h:jH n s ow m)(k:bS)(d:V)(c:Nat):jH n (s.give k c) (tP ow ((s.pl k).drop c).reverse) (fB m k d ((s.pl k).take c)):=by
 refine⟨λj=>?_,λp p0 p1=>?_⟩
 ·rw[iU,h.1];rfl
 ·rw[qw];show _=if p∈(s.pl k).drop c then false else s.oc p
  by_cases b:p∈(s.pl k).drop c
  ·rw[kw b,kw (Qv.mpr b)];rfl
  ·rw[ku b,ku (λz=>b (Qv.mp z))];exact h.2 p p0 p1
theorem jH.took(h:jH n s ow m)(k:bS)(d:V)(c:Nat):jH n (s.took n k c) (mF ow d ((pN n s.oc).take (c-(s.pl k).length))) (fB m k d (s.pl k++(pN n s.oc).take (c-(s.pl k).length))):=by
 refine⟨λj=>?_,λp p0 p1=>?_⟩
 ·rw[iU,h.1];rfl
 ·rw[uf];show _=if p∈(pN n s.oc).take (c-(s.pl k).length)then true else s.oc p
  split
  ·rfl
  ·exact h.2 p p0 p1
def fj.refl(H:Hp)(tk:List iz):fj H tk tk:=λx b=>.inl ⟨x,b,rfl⟩
theorem fj.trans(a:fj H tk c)(b:fj i c d)(h:∀l,i l=none->H l=none):fj H tk d:=λx j=>by
 rcases b x j with⟨y,k,e⟩|⟨l,e,f⟩
 ·rcases a y k with⟨z,m,g⟩|⟨l,g,f⟩
  ·exact .inl ⟨z,m,g.trans e⟩
  ·exact .inr ⟨l,e▸g,f⟩
 ·exact .inr ⟨l,e,h l f⟩
def dI{c:Type}{l:List c}{i:Nat}{x:c}(h:l[i]?=some x):l.take (i+1)=l.take i++[x]:=by rw[yl,h];rfl
theorem sH{n:Nat}:∀(W:Wl){s:AS},s.Ok n->(dq s W).length<=n*W.length|[],_,_=>n0 _|x::r,s,h=>by show(_++dq _ r).length<=n*(r.length+1);have c:=sH r (h.give x.1 x.2.toNat);have h1:=yP (h.nd x.1) λp b=>⟨(h.in_ x.1 p b).1,(h.in_ x.1 p b).2.1⟩;rw[kt,QI,Qw,Nat.mul_add,Nat.mul_one];lia
def wf(R:bS->V->Prop)(n:Nat)(s:AS)(ow:List (cg×V)):Prop:=∀(p:Int)(v:V),0<=p->p<n->bp ow (.inl p)=some v->∃k,p∈s.pl k/\R k v
theorem wf.give(h:wf R n s ow)(k:bS)(c:Nat):wf R n (s.give k c) (tP ow ((s.pl k).drop c).reverse):=by
 intro p v p0 p1 e;rw[qw]at e
 split at e
 ·cases e
 ·rename_i d;obtain⟨j,b,r⟩:=h p v p0 p1 e;refine⟨j,?_,r⟩;show p∈if j=k then(s.pl k).take c else s.pl j
  split
  ·rename_i f;rw[f,<-vu c (s.pl k),List.mem_append]at b;exact b.resolve_right λz=>d (Qv.mpr z)
  ·exact b
theorem wf.took(h:wf R n s ow)(k:bS)(d:R k f)(c:Nat):wf R n (s.took n k c) (mF ow f ((pN n s.oc).take (c-(s.pl k).length))):=by
 intro p v p0 p1 e;rw[uf]at e
 split at e
 ·rename_i g;cases e;refine⟨k,?_,d⟩;show p∈if k=k then s.pl k++(pN n s.oc).take (c-(s.pl k).length)else s.pl k
  rw[kw rfl];exact qc _ g
 ·obtain⟨j,b,r⟩:=h p v p0 p1 e;refine⟨j,?_,r⟩;show p∈if j=k then s.pl k++(pN n s.oc).take (c-(s.pl k).length)else s.pl j
  split
  ·rename_i i;rw[i]at b;exact D2 _ b
  ·exact b
def wf.mono(h:wf R n s ow)(f:∀k v,R k v->c k v):wf c n s ow:=λp v p0 p1 e=>let⟨k,h1,h2⟩:=h p v p0 p1 e;⟨k,h1,f k v h2⟩
inductive F7(P:Sb)(w:World)(K:R7)(C N:Addr)(vs:List V)(H:Hp)(Q:VK)(E:XK):Prop|mk(t od td wl:Addr)(n:Nat)(ow:List (cg×V))(tk:List iz)(m:List Pl)(S:AS)(W:Wl)(ts:List V)(_:vs=[.ref t,.ref wl])(_:eI P w K C H t od td n ow tk m)(_:jH n S ow m)(_:wf (cN K H) n S ow)(_:S.Ok n)(_:H wl=some (.lst ts))(_:Nj K H ts W)(_:(∀x∈W,0<=x.2))(_:(W.map (·.1)).Nodup)(_:W.length<=5)(_:n<=1000)(_:tk.length<=5000)(_:ow.length<=500000)(_:(jW S W<=((pN n S.oc).length:Int)->∀(l:Addr)(ow':List (cg×V))(tk':List iz)(m':List Pl)H',mJ od td H H'->eI P w K C H' t od td n ow' tk' m'->jH n (cZ n (cI S W) W) ow' m'->wf (cN K H) n (cZ n (cI S W) W) ow'->H l=none->H' l=some (.lst ((dq S W).map V.int))->fj H tk tk'->(∀x∈tk',x.2.2≠.ref l)->tk'.length<=tk.length+10->ow'.length<=ow.length+5000->Q (.ref l) H'))(_:(((pN n S.oc).length:Int)<jW S W->∀H',am H H'->E (.ref N) none H'))
section
def nC(T:Txt K mg a):aO P w K mg base (sN P w) 3 a.dS.x a.dS.d ["self","wanted"] (F7 P w K a.bN a.oP):=by
 refine T.dS.okE c9 λer A outer s H vs Q E hr h=>?_
 ·obtain⟨t,Z,td,wl,n,ow,tk,m,S,W,ts,rfl,hT,hS,hR,hO,b9,hW,c1,ed,es,hn,ev,ew,q,qe⟩:=h;refine⟨_,(ag (bg 2 c9.nd (ay (Fu K rfl rfl) (by rfl) T.Ox L2.IL (ac (wc iZ [] [4,5] [4,5] (ai iO) (C0 _ 4 5) (d8 K rfl (Y 1)) (λcl C s₀ H₀ ex=>⟨(ij K rfl rfl (bL (qL iZ [] 4) (bL (qL iZ [] 5) ii))),cr,(av fq (Y 5) (ay (aH K rfl) (by rfl) T.bE L2.aI (ac (bo (Y 0) T.bf T.aY.m ((dN (P:=P) (w:=w) T).mono (by decide)) hr T.aY.b .nil bh (ac (Y 4) O)) O)))⟩)) O))) (ag (aJ (aE sf (Y 2) (ay (aH K rfl) (by rfl) T.bE L2.aI (ac (kM (Y 0) T.bf T.dU.m ((nD (P:=P) (w:=w) T).mono (by decide)) hr T.dU.b .nil bh) O)) (aF _)) (ah (uQ T.xN rfl T.AY rfl uP (ac aB O))) aC) (ag (bg 3 c9.nd (bn O)) (ag (PS.nox (dy o_ rfl (d8 K rfl (Y 1)) (ij K rfl rfl (bL (qK 4 c9.nd) (bL (qK 5 c9.nd) ii))) (ah (aR (jk K rfl PySem.F.plainAttrs_list PySem.F.slot_list_extend PySem.F.type_list_extend xC (Y 3) (ac (bo (Y 0) T.bf T.cK.m ((oC (P:=P) (w:=w) T).mono (by decide)) hr T.cK.b .nil bh (ac (Y 4) (ac (Y 5) O))) O)))))) (ag (PS.nox (dy o_ rfl (d8 K rfl (Y 1)) (ij K rfl rfl (bL (qK 4 c9.nd) (bL (qK 5 c9.nd) ii))) (ah (aR (bo (Y 0) T.bf T.fH.m ((wH (P:=P) (w:=w) T).mono (by decide)) hr T.fH.b .nil bh (ac (Y 4) (ac (Y 5) O))))))) (ah (ax (Y 3)))))))),?_⟩
  obtain⟨dx,hI⟩:=hT.ins;have c2:ts.length=W.length:=Paired.length hW;refine U rfl ⟨wl,rfl,⟨_,aX.of b9⟩,λD hD=>?_⟩;refine rJ (K:=K) (a:=wl) (xs:=ts) (λi a3 H'=>am H H'/\H' D=some (.lst a3)/\a3=((W.take i).map λx=>x.2-((S.pl x.1).length:Int)).map V.int) ⟨aj (am.refl _) hD,ae,rfl⟩ (λi a3 H' _ h=>aX.of (h.1 _ _ b9)) ?_ ?_
  ·rintro i v a3 H1 hv⟨s1,bc,rfl⟩;have hi:i<ts.length:=(d_.mp hv).1;obtain⟨x,X,b,kv,rfl,hb,hk⟩:=hW.get i v hv;refine⟨b,U rfl ⟨am.tseq s1 hb,rfl,_,U rfl (aq ⟨_,U rfl (aq ⟨rfl,j3 (bD ?_)⟩)⟩)⟩⟩;refine U rfl (nh (s1 _ _ hI) rfl rfl (U rfl ⟨t,Z,td,n,ow,tk,m,x.1,kv,rfl,hT.same s1,oH s1 hk,λlp H2 s2 ey ef=>?_⟩));refine⟨_,U rfl ⟨.inl ⟨_,aX.of ef,rfl⟩,_,U rfl ⟨rfl,s2 _ _ bc,by rw[c_,c_,oe,lm];omega,lf hi ⟨bR (s1.trans s2) hD,ae,?_⟩⟩⟩⟩;rw[dI X,k_,k_,hS.1,c_];rfl
  ·rintro a3 H1⟨s1,bc,rfl⟩;rw[mu (by exact Qo c2.symm)]at bc;refine⟨D,U rfl ⟨.inl (aX.of bc),aq ?_⟩⟩;have ei:=hT.same s1;refine U rfl (nh (s1 _ _ hI) rfl rfl ⟨t,Z,td,n,ow,tk,m,rfl,ei,hn,λez H2 s2 eG c3=>?_⟩);rw[hS.free]at c3;refine⟨_,U rfl ⟨.inl ⟨_,aX.of c3,rfl⟩,_,U rfl ⟨rfl,U rfl ?_⟩⟩⟩;have M:=s1.trans s2;rw[c_];refine zf (λe=>⟨ls rfl,qe (rm e) H2 M⟩) (λe=>Cm ⟨ls rfl,λN an=>aq ?_⟩);have q:=q (Int.not_lt.mp (of_decide_eq_false e));clear e qe;have ap:=hT.same M;have s3:=aj (o:=.lst []) (am.refl H2) an;have bt:aA H2 N (.lst []) N=some (.lst []):=ae;have c4:H N=none:=M.free an;generalize aA H2 N (.lst [])=H3 at s3 bt⊢;have r:=M _ _ b9;refine U rfl ⟨wl,rfl,⟨_,aX.of (s3 _ _ r)⟩,?_⟩;have a5:N≠Z:=λz=>by have e:=ap.own;rw[<-z,an]at e;cases e
   have a6:N≠td:=λz=>by have e:=ap.tak;rw[<-z,an]at e;cases e
   have da:wl≠Z:=λz=>by have e:=ap.own;rw[<-z,r]at e;cases e
   have dc:wl≠td:=λz=>by have e:=ap.tak;rw[<-z,r]at e;cases e
   have as:wl≠Z/\wl≠td:=⟨da,dc⟩;have di:∀x∈tk,x.2.2≠.ref N:=λx X z=>by obtain⟨i,hi⟩:=m3.mp X;obtain⟨y,_,l,e3,e4⟩:=fe.at_ ap.lsts i x hi;rw[e3]at z;cases z;rw[an]at e4;cases e4
   have dt:fj H2 tk tk:=fj.refl _ _;have fresh:∀H',mJ Z td H2 H'->H' Z≠none->H' td≠none->∀l,H' l=none->H2 l=none:=λH' o h1 h2 l hl=>pD o h1 h2 hl;refine gn (xs:=ts) (λi σ H'=>Pn λg I m'=>O5 (mJ Z td H2 H') (eI P w K a.bN H' t Z td n g I m') ((jH n (cI S (W.take i)) g m'/\wf (cN K H) n (cI S (W.take i)) g)) (fj H2 tk I) (I.length<=tk.length+i) (g.length<=ow.length) ((∀x∈I,x.2.2≠.ref N)) (H' N=some (.lst ((dq S (W.take i)).map V.int))) ((∀j x,j<i->W[j]?=some x->((bq m' x.1).length:Int)<=x.2)) (Pn λv2 v4 v5=>σ=[some (.ref t),some (.ref wl),v2,some (.ref N),v4,v5])) ⟨ow,tk,m,.of s3,ap.same s3,⟨hS,hR⟩,dt,f_ _,f_ _,di,bt,λj x hj=>absurd hj (R0 _),_,_,_,rfl⟩ (λi σ H' _ h=>by obtain⟨_,_,_,o,_⟩:=h;exact aX.of (o _ _ r as.1 as.2)) ?_ ?_
   ·rintro i v σ H4 hv⟨g,I,m',o4,a0,⟨a2,bi⟩,a7,dv,dK,a8,u,ad,v2,v4,v5,rfl⟩;have hi:i<ts.length:=(d_.mp hv).1;obtain⟨x,X,b,kv,rfl,hb,hk⟩:=hW.get i v hv;have dT:=c1 x (i_ X);obtain⟨eH,ej⟩:=a0.ins;have dV:mJ Z td H H4:=(mJ.of M).trans o4;have aa:=jo (W.take i) hO;have bj:=dI X;have k:=a2.1 x.1;have d1:(bq m' x.1).length<=n:=by rw[k];exact yP (aa.nd x.1) λp hp=>⟨(aa.in_ x.1 p hp).1,(aa.in_ x.1 p hp).2.1⟩
    have eN:=sH (W.take i) hO;have eo:n*(W.take i).length<=1000*5:=Rt hn (by rw[oe];lia);refine⟨b,U rfl ⟨G4 dV hT.own hT.tak hb,rfl,_,U rfl (aq ⟨_,U rfl (aq ⟨rfl,?_⟩)⟩)⟩⟩;refine U rfl ⟨.inl ⟨rfl,_,aX.of u⟩,nh ej rfl rfl (U rfl (U rfl ⟨t,Z,td,n,g,I,m',x.1,kv,x.2,rfl,a0,eu dV hT.own hT.tak hk,dT,by lia,λp hp=>?_,by rw[k];exact aa.nd x.1,λl f H5 o5 eT d2 bv B J=>?_⟩))⟩
    ·rw[k]at hp;obtain⟨p0,p1,p2⟩:=aa.in_ x.1 p (List.mem_of_mem_drop hp);rw[a2.2 p p0 p1];exact p2
    ·have bz:=o5 _ _ u a5 a6;have G:∀y∈f,y.2.2≠.ref N:=λy hy z=>by
      rcases B y hy with⟨y',cc,e⟩|⟨l',e,ba⟩
      ·exact a8 y' cc (e.trans z)
      ·rw[e]at z;cases z;rw[u]at ba;cases ba
     have d3:(tP g ((bq m' x.1).drop x.2.toNat).reverse).length<=g.length:=HW _ _;have ci:fj H2 tk f:=a7.trans B (fresh H4 o4 (by rw[a0.own];simp) (by rw[a0.tak];simp));have R:=a2.give x.1 kv x.2.toNat;rw[k]at d2 J d3;refine⟨N,l,_,U rfl ⟨rfl,bz,d2,by rw[c_,c_,QI,Qw,lm];rw[k]at d1;lia,?_⟩⟩;refine⟨_,f,_,λc o e h1 h2=>?_,J.list bz G,by rw[bj,zi];exact⟨R,bi.give x.1 x.2.toNat⟩,ci,by lia,by lia,G,?_,λj y hj hy=>?_,_,_,_,rfl⟩
     ·rw[ak (λz=>by rw[z,an]at e;cases e)];exact o5 _ _ (o4 c o e h1 h2) h1 h2
     ·rw[bj,pR,k_];exact ae
     ·rw[iU]
      split
      ·rename_i e;rcases Rb j i with bb|bb
       ·have h1:=ad j y bb hy;rw[e,k]at h1;rw[oe];lia
       ·have:j=i:=by lia
        subst this;rw[X]at hy;cases hy;rw[oe];lia
      ·rename_i e;rcases Rb j i with bb|bb
       ·exact ad j y bb hy
       ·have:j=i:=by lia
        subst this;rw[X]at hy;cases hy;exact absurd rfl e
   ·rintro σ H4⟨g,I,m',o4,a0,⟨a2,bi⟩,a7,dv,dK,a8,u,ad,v2,v4,v5,rfl⟩;rw[mu (by lia)]at a2 bi u;have aa:=jo W hO;refine U rfl ⟨wl,rfl,⟨_,aX.of (o4 _ _ r as.1 as.2)⟩,?_⟩;refine gn (xs:=ts) (λi σ H'=>Pn λL f m5=>O5 (mJ Z td H2 H') (eI P w K a.bN H' t Z td n L f m5) ((jH n (cZ n (cI S W) (W.take i)) L m5/\wf (cN K H) n (cZ n (cI S W) (W.take i)) L)) (fj H2 tk f) ((∀x∈f,x.2.2≠.ref N)) (H' N=some (.lst ((dq S W).map V.int))) (f.length<=I.length+i) (L.length<=g.length+1000*i) ((∀j x,i<=j->W[j]?=some x->((bq m5 x.1).length:Int)<=x.2)) (Li λv4 v5=>σ=[some (.ref t),some (.ref wl),v2,some (.ref N),v4,v5])) ⟨g,I,m',o4,a0,⟨a2,bi⟩,a7,a8,u,f_ _,f_ _,λj x _ X=>ad j x (by rw[c2];exact(d_.mp X).1) X,_,_,rfl⟩ (λi σ H' _ h=>by obtain⟨_,_,_,o,_⟩:=h;exact aX.of (o _ _ r as.1 as.2)) ?_ ?_
    ·rintro i v σ H5 hv⟨L,f,m5,o5,J,⟨R,bl⟩,B,G,al,bv,d4,b0,v4,v5,rfl⟩;have hi:i<ts.length:=(d_.mp hv).1;obtain⟨x,X,b,kv,rfl,hb,hk⟩:=hW.get i v hv;have dT:=c1 x (i_ X);obtain⟨eV,ek⟩:=J.ins;have d5:mJ Z td H H5:=(mJ.of M).trans o5;have cF:=ld (W.take i) aa;have bj:=dI X;have k:=R.1 x.1;have d1:(bq m5 x.1).length<=n:=by rw[k];exact yP (cF.nd x.1) λp hp=>⟨(cF.in_ x.1 p hp).1,(cF.in_ x.1 p hp).2.1⟩
     have c0:=b0 i x (f_ _) X;refine⟨b,U rfl ⟨G4 d5 hT.own hT.tak hb,rfl,_,U rfl (aq ⟨_,U rfl (aq ⟨rfl,?_⟩)⟩)⟩⟩;refine nh ek rfl rfl (U rfl (U rfl ⟨t,Z,td,n,L,f,m5,x.1,kv,x.2,rfl,J,eu d5 hT.own hT.tak hk,hn,c0,by lia,by lia,by lia,λea H6 o6 ep b8 eb=>?_⟩));have el:(x.2-((bq m5 x.1).length:Int)).toNat=x.2.toNat-(((cZ n (cI S W) (W.take i)).pl x.1).length):=by rw[<-k];lia
     rw[el,R.free,k]at eb;have d3:=xL kv ((pN n (cZ n (cI S W) (W.take i)).oc).take (x.2.toNat-(((cZ n (cI S W) (W.take i)).pl x.1).length))) L;have eq:((pN n (cZ n (cI S W) (W.take i)).oc).take (x.2.toNat-(((cZ n (cI S W) (W.take i)).pl x.1).length))).length<=1000:=by have:=M3 n (cZ n (cI S W) (W.take i)).oc;rw[oe];omega
     have en:=R.took x.1 kv x.2.toNat;have ec:∀y∈ea,y.2.2≠.ref N:=λy hy z=>by
      rcases b8 y hy with⟨y',cc,e⟩|⟨l',e,ba⟩
      ·exact G y' cc (e.trans z)
      ·rw[e]at z;cases z;rw[al]at ba;cases ba
     refine⟨_,ea,_,o5.trans o6,eb,by rw[bj,yo];exact⟨en,bl.took x.1 hk x.2.toNat⟩,B.trans b8 (fresh H5 o5 (by rw[J.own];simp) (by rw[J.tak];simp)),ec,o6 _ _ al a5 a6,by lia,by lia,λj y hj hy=>?_,_,_,rfl⟩;rw[iU,ku (λz=>?_)]
     ·exact b0 j y (by exact tl hj) hy
     ·have e1:(W.map (·.1))[j]?=some x.1:=by rw[j_,hy,<-z];rfl
      have e2:(W.map (·.1))[i]?=some x.1:=by rw[j_,X];rfl
      have:=(Qp (d_.mp e1).1 ed).mp (e1.trans e2.symm);lia
    ·rintro σ H5⟨L,f,m5,o5,J,⟨R,bl⟩,B,G,al,bv,d4,_,v4,v5,rfl⟩;rw[mu (by lia)]at R bl;exact U rfl (q N L f m5 H5 ((mJ.of M).trans o5) J R bl c4 al (fj.trans (fj.refl H tk) B λl hl=>M.free hl) G (by lia) (by lia))
end
abbrev gd(ns:Sh)(k:Nat):Int:=ns.getD k 0
def C9(c gs:Sh):Nat->Nat|0=>0|n+1=>if gd c (n+1)*(gd gs (C9 c gs n)+1)>gd c (C9 c gs n)*(gd gs (n+1)+1)then n+1 else C9 c gs n
theorem zv(c gs:Sh):∀n,C9 c gs n<=n
 |0=>f_ _|n+1=>by
  have:=zv c gs n;unfold C9
  split<;>lia
def deal(c:Sh):Nat->List Int|0=>List.replicate c.length 0|n+1=>(deal c n).set (C9 c (deal c n) (c.length-1)) (gd (deal c n) (C9 c (deal c n) (c.length-1))+1)
theorem mH(c:Sh):∀n,(deal c n).length=c.length|0=>by simp[deal]|n+1=>by rw[deal,u_,mH c n]
def MY(ns:Sh)(i j:Nat)(v:Int)(h:i<ns.length):gd (ns.set i v) j=if i=j then v else gd ns j:=by
 unfold gd;rw[z8,z8,QU]
 by_cases e:i=j
 ·rw[kw e,kw e];simp[h]
 ·rw[ku e,ku e]
theorem zw(c:Sh):∀n k,0<=gd (deal c n) k/\gd (deal c n) k<=n
 |0,k=>by
  have e:gd (deal c 0) k=0:=by
   unfold gd deal;rw[z8,List.getElem?_replicate]
   split<;>rfl
  rw[e];exact⟨RX _,by lia⟩|n+1,k=>by
  have b:=zw c n
  by_cases h0:c.length=0
  ·have:(deal c (n+1)).length=0:=by rw[mH,h0]
   have e:=Q7.mp this;rw[e];exact⟨RX _,by show(0:Int)<=_;exact tx _⟩
  ·have d:=zv c (deal c n) (c.length-1);rw[deal,MY _ _ _ _ (by rw[mH];lia)]
   split
   ·have:=b (C9 c (deal c n) (c.length-1));lia
   ·have:=b k;lia
inductive Ma(K:R7)(vs:List V)(H:Hp)(Q:VK)(_E:XK):Prop|mk(wt gl:Addr)(ws gs:Sh)(_:vs=[.ref wt,.ref gl])(_:aW K H wt (ws.map V.int))(_:aX K H gl (gs.map V.int))(_:gs.length=ws.length)(_:0<ws.length)(_:ws.length<=4)(_:(∀k,0<=gd gs k/\gd gs k<=2000))(_:Q (.int (C9 ws gs (ws.length-1):Nat)) H)
inductive JK(K:R7)(vs:List V)(H:Hp)(Q:VK)(_E:XK):Prop|mk(n:Nat)(wt:Addr)(ws:Sh)(_:vs=[.int n,.ref wt])(_:n<=2000)(_:aW K H wt (ws.map V.int))(_:0<ws.length)(_:ws.length<=4)(_:∀t H',am H H'->H' t=some (.tup ((deal ws n).map V.int))->Q (.ref t) H')
section
def AE(T:Txt K mg a):aO P w K mg base dk 1 a.kR.x a.kR.d ["weights","given"] (Ma K):=by
 refine T.kR.ok jM λl A outer s H t Q E u h=>?_
 ·obtain⟨m,gl,b,gs,rfl,c,g,j,y,l4,k,q⟩:=h;refine⟨_,(ag (bg 2 jM.nd af) (ag (dy o_ rfl (xx rfl T.dP (ac af (ac (ay (aH K rfl) (by rfl) T.bE L2.aI (ac (Y 0) O)) O))) (qK 3 jM.nd) (ah (aJ (aE sf (av fE (df K (Y 0) (Y 3)) (av bG (iX K (Y 1) (Y 2)) af)) (av fE (df K (Y 0) (Y 2)) (av bG (iX K (Y 1) (Y 3)) af)) (aF _)) (ah (bg 2 jM.nd (Y 3))) aC))) (ah (ax (Y 2))))),?_⟩
  refine U rfl ⟨_,b.length,rfl,.inr ⟨_,c,by simp⟩,_,U rfl ⟨⟨by decide,by decide,by exact tx _,by lia⟩,?_⟩⟩;refine gH (lo:=1) (n:=((b.length:Int)-1).toNat) (λi f H'=>H=H'/\∃v,f=[some (.ref m),some (.ref gl),some (.int (C9 b gs i:Nat)),v]) ⟨rfl,_,rfl⟩ ?_ ?_
  ·rintro i f _ hi⟨rfl,v,rfl⟩;have hd:=zv b gs i;have o:0<=gs.getD (C9 b gs i) 0/\gs.getD (C9 b gs i) 0<=2000:=k (C9 b gs i);have p:0<=gs.getD (i+1) 0/\gs.getD (i+1) 0<=2000:=k (i+1);have r:((1:Int)+(i:Int))=((i+1:Nat):Int):=by lia
   refine U rfl (U rfl (rX c (m7 (by lia) (by omega)) (U rfl (U rfl (rX g (m7 (by lia) (by omega)) (r2 (r2 ?_)))))));refine⟨.inr ⟨?_,?_⟩,?_⟩
   ·simp only[ot];lia
   ·simp only[ot];lia
   refine U rfl (U rfl (rX c (m7 (by lia) (by omega)) (U rfl (U rfl (rX g (m7 (by lia) (by omega)) (r2 (r2 ?_)))))));rw[r];refine⟨.inr ⟨?_,?_⟩,?_⟩
   ·simp only[ot];lia
   ·simp only[ot];lia
   refine r2 (U rfl ?_);simp only[ot];refine ko (λh=>?_) (λh=>?_)
   ·refine U rfl ⟨rfl,some (.int ((i+1:Nat):Int)),?_⟩;rw[C9,kw h];rfl
   ·refine⟨rfl,some (.int ((i+1:Nat):Int)),?_⟩;rw[C9,ku h];rfl
  ·rintro f _⟨rfl,v,rfl⟩;have e:((b.length:Int)-1).toNat=b.length-1:=by lia
   rw[e];exact U rfl q
def GZ(T:Txt K mg a):aO P w K mg base dk 2 a.xR.x a.xR.d ["total","weights"] (JK K):=by
 refine T.xR.ok oY λC A outer s H N Q E D h=>?_
 ·obtain⟨n,f,b,rfl,hn,y,F,l4,q⟩:=h;refine⟨_,(ag (bg 2 oY.nd (av GU (bn (ac af O)) (ay (aH K rfl) (by rfl) T.bE L2.aI (ac (Y 1) O)))) (ag (dy o_ rfl (cP rfl T.dP (ac (Y 0) O)) (qK 3 oY.nd) (ag (bg 4 oY.nd (pc T.kR (AE T) D (ac (Y 1) (ac (Y 2) O)))) (ah (ki (av bG (iX K (Y 2) (Y 4)) af) (kj (Y 2) (Y 4) GD))))) (ah (ax (et (fT K rfl) (by rfl) T.eF L2.bZ (ac (Y 2) O)))))),?_⟩
  refine⟨ls rfl,λl z=>?_⟩;have j:aW K (aA H l (.lst [.int 0])) f (b.map V.int):=am.tseq (aj (am.refl H) z) y;refine U rfl ⟨_,b.length,rfl,.inr ⟨_,j,by simp⟩,l,_,U rfl ⟨rfl,ae,by exact tx _,by lia,c8 (by simp;lia),λg hg=>?_⟩⟩;have G:am H (aA (aA H l (.lst [.int 0])) g (.lst (List.replicate (b.length:Int).toNat [V.int 0]).flatten)):=aj (aj (am.refl H) z) hg;have I:(List.replicate (b.length:Int).toNat [V.int 0]).flatten=(deal b 0).map V.int:=by
   rw[ot,deal,List.map_replicate];generalize b.length=m
   induction m with|zero=>rfl|succ m J=>rw[sD,N_,J,sD];rfl
  have o:H g=none:=(MJ hg).2;refine U rfl ⟨(n:Int),rfl,by lia,by lia,?_⟩;refine gH (lo:=0) (n:=(n:Int).toNat) (λi p H'=>am H H'/\H' g=some (.lst ((deal b i).map V.int))/\(Li λr u=>p=[some (.int n),some (.ref f),some (.ref g),r,u])) ⟨G,by rw[ae,I],_,_,rfl⟩ ?_ ?_
  ·rintro i p L hi⟨e,c,r,u,rfl⟩;have B:=zw b i;have hd:=zv b (deal b i) (b.length-1);have v:=mH b i;refine U rfl (U rfl ⟨f,g,b,deal b i,rfl,am.tseq e y,aX.of c,v,F,l4,λk=>⟨(B k).1,by have:=(B k).2;lia⟩,?_⟩);refine U rfl (U rfl (rX (aX.of c) (m7 (by lia) (by lia)) (r2 ?_)));refine U rfl (U rfl ⟨g,_,_,U rfl ⟨rfl,c,KK (by lia) (by simp;lia),?_⟩⟩);refine⟨bR e o,?_,_,_,rfl⟩;rw[ae];simp only[ot];rw[AX];rfl
  ·rintro p L⟨e,c,r,u,rfl⟩;refine U rfl ⟨g,U rfl (.inl ⟨aX.of c,λt M=>?_⟩)⟩;exact q t _ (aj e M) ae
end
inductive Ab(C:Addr)(vs:List V)(H:Hp)(Q:VK)(_E:XK):Prop|mk(t dx ar ru sh:Addr)(hm:Str)(_:vs=[.ref t,.str hm,.ref ar,.ref ru,.ref sh])(_:H t=some (.ins C dx []))(_:∀(ba:Addr)H',H ba=none->(∀b o,H b=some o->b≠t->H' b=some o)->H' t=some (.ins C dx [("home",.str hm),("arms",.ref ar),("rule",.ref ru),("shuts",.ref sh),("paused",.bl false),("closed",.bl false),("barred",.ref ba)])->H' ba=some (.dK [])->Q .non H')
section
def tw(T:Txt K mg a):aO P w K mg base dk 1 a.dR.x a.dR.d ["self","home","arms","rule","shuts"] (Ab a.fC):=by
 refine T.dR.ok sX λk A outer s H m Q E n h=>?_
 ·obtain⟨t,dx,ar,ru,sh,hm,rfl,l,q⟩:=h;refine⟨_,(ag (cu K rfl (Y 0) (Y 1)) (ag (cu K rfl (Y 0) (Y 2)) (ag (cu K rfl (Y 0) (Y 3)) (ag (cu K rfl (Y 0) (Y 4)) (ag (cu K rfl (Y 0) eD) (ag (cu K rfl (Y 0) eD) (ah (cu K rfl (Y 0) kN)))))))),?_⟩
  refine U rfl (U rfl ⟨t,_,dx,U rfl ⟨l,T.bd,T.ik,by simp,?_⟩⟩);rw[show eL "home" (V.str hm) []=([("home",V.str hm)]:List (Str×V))from rfl];refine U rfl (U rfl ⟨t,_,dx,U rfl ⟨ae,T.bd,T.fA,by simp,?_⟩⟩);rw[fZ,show eL "arms" (V.ref ar) [("home",V.str hm)]=([("home",V.str hm),("arms",V.ref ar)]:List (Str×V))from rfl];refine U rfl (U rfl ⟨t,_,dx,U rfl ⟨ae,T.bd,T.nE,by simp,?_⟩⟩);rw[fZ,show eL "rule" (V.ref ru) [("home",V.str hm),("arms",V.ref ar)]=([("home",V.str hm),("arms",V.ref ar),("rule",V.ref ru)]:List (Str×V))from rfl];refine U rfl (U rfl ⟨t,_,dx,U rfl ⟨ae,T.bd,T.mz,by simp,?_⟩⟩);rw[fZ,show eL "shuts" (V.ref sh) [("home",V.str hm),("arms",V.ref ar),("rule",V.ref ru)]=([("home",V.str hm),("arms",V.ref ar),("rule",V.ref ru),("shuts",V.ref sh)]:List (Str×V))from rfl];refine U rfl ⟨t,_,dx,U rfl ⟨ae,T.bd,T.iF,by simp,?_⟩⟩;rw[fZ,show eL "paused" (V.bl false) [("home",V.str hm),("arms",V.ref ar),("rule",V.ref ru),("shuts",V.ref sh)]=([("home",V.str hm),("arms",V.ref ar),("rule",V.ref ru),("shuts",V.ref sh),("paused",V.bl false)]:List (Str×V))from rfl];refine U rfl ⟨t,_,dx,U rfl ⟨ae,T.bd,T.d9,by simp,?_⟩⟩;rw[fZ,show eL "closed" (V.bl false) [("home",V.str hm),("arms",V.ref ar),("rule",V.ref ru),("shuts",V.ref sh),("paused",V.bl false)]=([("home",V.str hm),("arms",V.ref ar),("rule",V.ref ru),("shuts",V.ref sh),("paused",V.bl false),("closed",V.bl false)]:List (Str×V))from rfl];refineλf c=>?_;have i:t≠f:=λz=>by rw[<-z,ae]at c;cases c
  refine U rfl ⟨t,_,dx,U rfl ⟨by rw[ak i];exact ae,T.bd,T.iG,by simp,?_⟩⟩;rw[show eL "barred" (V.ref f) [("home",V.str hm),("arms",V.ref ar),("rule",V.ref ru),("shuts",V.ref sh),("paused",V.bl false),("closed",V.bl false)]=([("home",V.str hm),("arms",V.ref ar),("rule",V.ref ru),("shuts",V.ref sh),("paused",V.bl false),("closed",V.bl false),("barred",V.ref f)]:List (Str×V))from rfl];have g:H f=none:=by rw[ak (pv i)]at c;exact c
  refine q f _ g (λb o e j=>?_) ae (by rw[ak (pv i)];exact ae);rw[ak j,ak (aD e g),ak j];exact e
end
inductive Ac(P:Sb)(w:World)(K:R7)(C D:Addr)(vs:List V)(H:Hp)(Q:VK)(_E:XK):Prop|mk(t dx:Addr)(z:Int)(n:Nat)(_:vs=[.ref t,.int z,.int n])(_:H t=some (.ins C dx []))(_:∀(tb od td iu:Addr)H',H tb=none->H od=none->H td=none->H iu=none->od≠iu->(∀b o,H b=some o->b≠t->H' b=some o)->H' t=some (.ins C dx [("slope",.int z),("table",.ref tb),("inside",.ref iu)])->eI P w K D H' tb od td n [] [] []->H' iu=some (.dK [])->Q .non H')
section
def tD(T:Txt K mg a):aO P w K mg base dk 3 a.dY.x a.dY.d ["self","slope","many"] (Ac P w K a.eT a.bN):=by
 refine T.dY.ok sZ λZ A outer s H vs Q E hr h=>?_
 ·obtain⟨t,dx,z,n,rfl,hT,q⟩:=h;refine⟨_,(ag (cu K rfl (Y 0) (Y 1)) (ag (cu K rfl (Y 0) (tY T.Hi ((tz (P:=P) (w:=w) T).mono (by decide)) hr rfl T.Ku T.dW.b .nil bh (ac (Y 2) O))) (ah (cu K rfl (Y 0) kN)))),?_⟩
  refine U rfl (U rfl ⟨t,_,dx,U rfl ⟨hT,T.bJ,T.gj,by simp,?_⟩⟩);rw[show eL "slope" (V.int z) []=([("slope",V.int z)]:List (Str×V))from rfl];have f1:∀b o,H b=some o->b≠t->aA H t (.ins a.eT dx [("slope",V.int z)]) b=some o:=λb o e m=>by rw[ak m];exact e
  have g:aA H t (.ins a.eT dx [("slope",V.int z)]) t=some (.ins a.eT dx [("slope",V.int z)]):=ae;have y:∀b,aA H t (.ins a.eT dx [("slope",V.int z)]) b=none->H b=none:=λb e=>by
   by_cases h:b=t
   ·rw[h,ae]at e;cases e
   ·rw[ak h]at e;exact e
  generalize aA H t (.ins a.eT dx [("slope",V.int z)])=k at f1 g y⊢;refine U rfl (λc ty i G I=>?_);have f2:∀b o,k b=some o->aA (aA k ty (.own c)) c (.ins a.bN ty []) b=some o:=λb o e=>by rw[ak (aD e i),ak (aD e G)];exact e
  have B:aA (aA k ty (.own c)) c (.ins a.bN ty []) c=some (.ins a.bN ty []):=ae;have C:aA (aA k ty (.own c)) c (.ins a.bN ty []) ty=some (.own c):=by rw[ak I];exact ae
  generalize aA (aA k ty (.own c)) c (.ins a.bN ty [])=H2 at f2 B C⊢;refine⟨c,ty,n,rfl,B,C,λW X D p r f3 f=>⟨rfl,?_⟩⟩;have n1:∀b,H2 b=none->k b=none:=λb e=>by cases z:k b with|none=>rfl|some o=>rw[f2 b o z]at e;cases e
  have u:∀b o,k b=some o->D b=some o:=λb o e=>f3 b o (f2 b o e) (aD e i);have J:=u _ _ g;refine U rfl ⟨t,_,dx,U rfl ⟨J,T.bJ,T.dB,by simp,?_⟩⟩;rw[show eL "table" (V.ref c) [("slope",V.int z)]=([("slope",V.int z),("table",V.ref c)]:List (Str×V))from rfl];refineλv l=>?_;have L:t≠v:=λz=>by rw[<-z,ae]at l;cases l
  have j:D v=none:=by rw[ak (pv L)]at l;exact l
  refine U rfl ⟨t,_,dx,U rfl ⟨by rw[ak L];exact ae,T.bJ,T.cj,by simp,?_⟩⟩;rw[show eL "inside" (V.ref v) [("slope",V.int z),("table",V.ref c)]=([("slope",V.int z),("table",V.ref c),("inside",V.ref v)]:List (Str×V))from rfl];have n3:∀b,D b=none->k b=none:=λb e=>by cases z:k b with|none=>rfl|some o=>rw[u b o z]at e;cases e
  have F:∀b o,D b=some o->b≠t->aA (aA (aA D t (.ins a.eT dx [("slope",V.int z),("table",V.ref c)])) v (.dK [])) t (.ins a.eT dx [("slope",V.int z),("table",V.ref c),("inside",V.ref v)]) b=some o:=λb o e m=>by rw[ak m,ak (aD e j),ak m];exact e
  have M:c≠t:=λz=>by rw[z,g]at i;cases i
  have N:W≠t:=λz=>by rw[z,f2 _ _ g]at p;cases p
  have R:X≠t:=λz=>by rw[z,f2 _ _ g]at r;cases r
  refine q c W X v _ (y _ i) (y _ (n1 _ p)) (y _ (n1 _ r)) (y _ (n3 _ j)) (aD f.own j) (λb o e m=>F b o (u b o (f1 b o e m)) m) ae ?_ (by rw[ak (pv L)];exact ae);obtain⟨S,hI⟩:=f.ins;exact⟨⟨S,F _ _ hI M⟩,F _ _ f.own N,F _ _ f.tak R,λx hx=>(by cases hx),.nil⟩
end
def t5(d:H t=some g)(c:H x=none):(∀b o,H b=some o->b≠t->aA (aA H x o2) t o3 b=some o)/\aA (aA H x o2) t o3 t=some o3/\aA (aA H x o2) t o3 x=some o2/\x≠t:=by
 have n:x≠t:=λz=>by rw[z,d]at c;cases c
 exact⟨λb o e f=>by rw[ak f,ak (aD e c)];exact e,ae,by rw[ak n];exact ae,n⟩
inductive Ad(C:Addr)(vs:List V)(H:Hp)(Q:VK)(_E:XK):Prop|mk(t dx:Addr)(z sa:Int)(_:vs=[.ref t,.int z,.int sa])(_:H t=some (.ins C dx []))(_:(2<=z/\z<=997))(_:(∀i:Nat,2+(i:Int)<z->z%(2+(i:Int))≠0))(_:(0<=sa/\sa<=c5))(_:∀(ln tn ci dl:Addr)H',H ln=none->H tn=none->H ci=none->H dl=none->ln≠tn->ln≠ci->tn≠ci->(∀b o,H b=some o->b≠t->H' b=some o)->H' t=some (.ins C dx [("own_prime",.int z),("own_salt",.int sa),("layer_named",.ref ln),("trial_named",.ref tn),("came_into",.ref ci),("deeds",.ref dl)])->H' ln=some (.dK [])->H' tn=some (.dK [])->H' ci=some (.dK [])->H' dl=some (.lst [])->Q .non H')
section
def tH(T:Txt K mg a):aO P w K mg base dk 5 a.d7.x a.d7.d ["self","prime","salt"] (Ad a.bj):=by
 refine T.d7.ok tm λa5 A outer s H vs Q E hr h=>?_
 ·obtain⟨t,dx,z,sa,rfl,ap,h1,h2,h3,q⟩:=h;refine⟨_,(ag (aR (pc T.fQ (u0 T) hr (ac (Y 1) (ac (Y 2) O)))) (ag (cu K rfl (Y 0) (Y 1)) (ag (cu K rfl (Y 0) (Y 2)) (ag (cu K rfl (Y 0) kN) (ag (cu K rfl (Y 0) kN) (ag (cu K rfl (Y 0) kN) (ah (cu K rfl (Y 0) (bn O))))))))),?_⟩
  refine U rfl (U rfl ⟨z,sa,rfl,h1,h2,h3,λH0 s0=>?_⟩);have hT:=s0 _ _ ap;refine U rfl (U rfl ⟨t,_,dx,U rfl ⟨hT,T.az,T.bP,by simp,?_⟩⟩);rw[show eL "own_prime" (V.int z) []=([("own_prime",V.int z)]:List (Str×V))from rfl];refine U rfl (U rfl ⟨t,_,dx,U rfl ⟨ae,T.az,T.jX,by simp,?_⟩⟩);rw[fZ,show eL "own_salt" (V.int sa) [("own_prime",V.int z)]=([("own_prime",V.int z),("own_salt",V.int sa)]:List (Str×V))from rfl];have f1:∀b o,H b=some o->b≠t->aA H0 t (.ins a.bj dx [("own_prime",V.int z),("own_salt",V.int sa)]) b=some o:=λb o e i=>by rw[ak i];exact s0 _ _ e
  have M:aA H0 t (.ins a.bj dx [("own_prime",V.int z),("own_salt",V.int sa)]) t=some (.ins a.bj dx [("own_prime",V.int z),("own_salt",V.int sa)]):=ae;generalize aA H0 t (.ins a.bj dx [("own_prime",V.int z),("own_salt",V.int sa)])=H1 at f1 M⊢;refineλln N=>?_;obtain⟨g2,R,k,f⟩:=t5 (o2:=.dK []) (o3:=.ins a.bj dx [("own_prime",V.int z),("own_salt",V.int sa),("layer_named",V.ref ln)]) M N;refine U rfl ⟨t,_,dx,U rfl ⟨by rw[ak (pv f)];exact M,T.az,T.aN,by simp,?_⟩⟩;rw[show eL "layer_named" (V.ref ln) [("own_prime",V.int z),("own_salt",V.int sa)]=([("own_prime",V.int z),("own_salt",V.int sa),("layer_named",V.ref ln)]:List (Str×V))from rfl];have f2:∀b o,H b=some o->b≠t->aA (aA H1 ln (.dK [])) t (.ins a.bj dx [("own_prime",V.int z),("own_salt",V.int sa),("layer_named",V.ref ln)]) b=some o:=λb o e i=>g2 b o (f1 b o e i) i;have as:H ln=none:=by cases S:H ln with|none=>rfl|some o=>rw[f1 ln o S f]at N;cases N
  generalize aA (aA H1 ln (.dK [])) t (.ins a.bj dx [("own_prime",V.int z),("own_salt",V.int sa),("layer_named",V.ref ln)])=H2 at f2 g2 R k⊢;refineλtn y=>?_;obtain⟨g3,W,l,g⟩:=t5 (o2:=.dK []) (o3:=.ins a.bj dx [("own_prime",V.int z),("own_salt",V.int sa),("layer_named",V.ref ln),("trial_named",V.ref tn)]) R y;refine U rfl ⟨t,_,dx,U rfl ⟨by rw[ak (pv g)];exact R,T.az,T.aP,by simp,?_⟩⟩;rw[show eL "trial_named" (V.ref tn) [("own_prime",V.int z),("own_salt",V.int sa),("layer_named",V.ref ln)]=([("own_prime",V.int z),("own_salt",V.int sa),("layer_named",V.ref ln),("trial_named",V.ref tn)]:List (Str×V))from rfl];have f3:∀b o,H b=some o->b≠t->aA (aA H2 tn (.dK [])) t (.ins a.bj dx [("own_prime",V.int z),("own_salt",V.int sa),("layer_named",V.ref ln),("trial_named",V.ref tn)]) b=some o:=λb o e i=>g3 b o (f2 b o e i) i;have m:=g3 _ _ k f;have B:ln≠tn:=aD k y;have a0:H tn=none:=by cases S:H tn with|none=>rfl|some o=>rw[f2 tn o S g]at y;cases y
  generalize aA (aA H2 tn (.dK [])) t (.ins a.bj dx [("own_prime",V.int z),("own_salt",V.int sa),("layer_named",V.ref ln),("trial_named",V.ref tn)])=H3 at f3 g3 W l m⊢;refineλc n=>?_;obtain⟨g4,X,p,r⟩:=t5 (o2:=.dK []) (o3:=.ins a.bj dx [("own_prime",V.int z),("own_salt",V.int sa),("layer_named",V.ref ln),("trial_named",V.ref tn),("came_into",V.ref c)]) W n;refine U rfl ⟨t,_,dx,U rfl ⟨by rw[ak (pv r)];exact W,T.az,T.dO,by simp,?_⟩⟩;rw[show eL "came_into" (V.ref c) [("own_prime",V.int z),("own_salt",V.int sa),("layer_named",V.ref ln),("trial_named",V.ref tn)]=([("own_prime",V.int z),("own_salt",V.int sa),("layer_named",V.ref ln),("trial_named",V.ref tn),("came_into",V.ref c)]:List (Str×V))from rfl];have f4:∀b o,H b=some o->b≠t->aA (aA H3 c (.dK [])) t (.ins a.bj dx [("own_prime",V.int z),("own_salt",V.int sa),("layer_named",V.ref ln),("trial_named",V.ref tn),("came_into",V.ref c)]) b=some o:=λb o e i=>g4 b o (f3 b o e i) i;have u:=g4 _ _ m f;have C:ln≠c:=aD m n;have v:=g4 _ _ l g;have D:tn≠c:=aD l n;have a2:H c=none:=by cases S:H c with|none=>rfl|some o=>rw[f3 c o S r]at n;cases n
  generalize aA (aA H3 c (.dK [])) t (.ins a.bj dx [("own_prime",V.int z),("own_salt",V.int sa),("layer_named",V.ref ln),("trial_named",V.ref tn),("came_into",V.ref c)])=H4 at f4 g4 X p u v⊢;refine⟨ls rfl,λdl j=>?_⟩;obtain⟨Z,aa,F,G⟩:=t5 (o2:=.lst []) (o3:=.ins a.bj dx [("own_prime",V.int z),("own_salt",V.int sa),("layer_named",V.ref ln),("trial_named",V.ref tn),("came_into",V.ref c),("deeds",V.ref dl)]) X j;refine U rfl ⟨t,_,dx,U rfl ⟨by rw[ak (pv G)];exact X,T.az,T.mB,by simp,?_⟩⟩;rw[show eL "deeds" (V.ref dl) [("own_prime",V.int z),("own_salt",V.int sa),("layer_named",V.ref ln),("trial_named",V.ref tn),("came_into",V.ref c)]=([("own_prime",V.int z),("own_salt",V.int sa),("layer_named",V.ref ln),("trial_named",V.ref tn),("came_into",V.ref c),("deeds",V.ref dl)]:List (Str×V))from rfl];have f5:∀b o,H b=some o->b≠t->aA (aA H4 dl (.lst [])) t (.ins a.bj dx [("own_prime",V.int z),("own_salt",V.int sa),("layer_named",V.ref ln),("trial_named",V.ref tn),("came_into",V.ref c),("deeds",V.ref dl)]) b=some o:=λb o e i=>Z b o (f4 b o e i) i;have I:=Z _ _ u f;have ad:ln≠dl:=aD u j;have J:=Z _ _ v g;have al:tn≠dl:=aD v j;have L:=Z _ _ p r;have an:c≠dl:=aD p j;have a3:H dl=none:=by cases S:H dl with|none=>rfl|some o=>rw[f4 dl o S G]at j;cases j
  generalize aA (aA H4 dl (.lst [])) t (.ins a.bj dx [("own_prime",V.int z),("own_salt",V.int sa),("layer_named",V.ref ln),("trial_named",V.ref tn),("came_into",V.ref c),("deeds",V.ref dl)])=H5 at f5 Z aa F I J L⊢;exact q ln tn c dl _ as a0 a2 a3 B C D f5 aa I J L F
end
def DC(c:Nat):Int:=Txt.find kr ⟨#[c]⟩
def yQ(m:Int)(cs:Sf):Int:=cs.foldl (λm c=>1009*m+DC c+1) m
def Hl{m:Int}{cs:Sf}{i c:Nat}(h:cs[i]?=some c):yQ m (cs.take (i+1))=1009*yQ m (cs.take i)+DC c+1:=by unfold yQ;rw[yl,h,M_];rfl
def MH{c:Nat}(h:c∈kr.cps.toList):∃i r,Builtin.Str.occurrences kr ⟨#[c]⟩ 0 kr.length 1=i::r/\DC c=(i:Nat):=by have e:=StrLaws.found_one kr c;rw[nn h]at e;cases q:Builtin.Str.occurrences kr ⟨#[c]⟩ 0 kr.length 1 with|nil=>rw[q]at e;cases e|cons i r=>refine⟨i,r,rfl,?_⟩;unfold DC Txt.find;rw[q]
def wA(p m sl:Int)(x:Str):Int:=if sl=p then yQ m x.cps.toList%(p*p)%p else(yQ m x.cps.toList%(p*p)/p+sl*(yQ m x.cps.toList%(p*p)%p))%p
inductive JA(vs:List V)(H:Hp)(Q:VK)(_E:XK):Prop|mk(p:_)(m:_)(x:_)(_:vs=[.int p,.int m,.str x])(_:DX x)(_:(2<=p/\p<=997))(_:∀t,H t=none->Q (.ref t) (aA H t (.tup [.int (yQ m x.cps.toList%(p*p)/p),.int (yQ m x.cps.toList%(p*p)%p)])))
inductive JC(K:R7)(vs:List V)(H:Hp)(Q:VK)(_E:XK):Prop|mk(t:Addr)(p s x y:Int)(_:vs=[.int p,.int s,.ref t])(_:aW K H t [.int x,.int y])(_:0<p)(_:(0<=s/\s<=1000))(_:Q (.int (if s=p then y else(x+s*y)%p)) H)
inductive Em(a:iK)(vs:List V)(H:Hp)(Q:VK)(_E:XK):Prop|mk(h lo dx dl:Addr)(fs gs:List (Str×V))(p m sl:Int)(x:Str)(_:vs=[.ref h,.ref lo,.str x])(_:H h=some (.ins a.bj dx fs))(_:fs.lookup ("own_prime":Str)=some (V.int p))(_:fs.lookup ("own_salt":Str)=some (V.int m))(_:H lo=some (.ins a.eT dl gs))(_:gs.lookup ("slope":Str)=some (V.int sl))(_:DX x)(_:(2<=p/\p<=997))(_:(0<=sl/\sl<=1000))(_:∀H',am H H'->Q (.int (wA p m sl x)) H')
section
def AC(T:Txt K mg a):aO P w K mg base dk 1 a.kK.x a.kK.d ["p","salt","guest"] JA:=by
 refine T.kK.ok jL λf A outer s H k Q E l h=>?_
 ·obtain⟨p,m,x,rfl,hg,⟨p0,p1⟩,q⟩:=h;refine⟨_,(ag (bg 3 jL.nd (Y 1)) (ag (dy o_ rfl (GR (Y 2)) (qK 4 jL.nd) (ah (bg 3 jL.nd (av bG (av bG (av fE (cB T.K4 rfl) (Y 3)) (jk K rfl PySem.F.plainAttrs_str PySem.F.slot_str_index PySem.F.type_str_index Hg (cB T.nJ rfl) (ac (Y 4) O))) af)))) (ah (ax (ay Bx (by rfl) T.Hd L2.BB (ac (av aQ (Y 3) (av fE (Y 0) (Y 0))) (ac (Y 0) O))))))),?_⟩
  refine U rfl (U rfl ⟨x,rfl,?_⟩);refine KU (λi b H'=>H=H'/\∃v,b=[some (.int p),some (.int m),some (.str x),some (.int (yQ m (x.cps.toList.take i))),v]) ⟨rfl,_,rfl⟩ ?_ ?_
  ·rintro i c b _ hc⟨rfl,v,rfl⟩;obtain⟨j,r,g,hn⟩:=MH (hg.cs c (i_ hc));refine U rfl (r2 ⟨.inl ⟨by decide,by decide⟩,rfl,U rfl ⟨kr,_,j,r,rfl,rfl,g,_,U rfl ⟨rfl,r2 ⟨rfl,some (.str ⟨#[c]⟩),?_⟩⟩⟩⟩);rw[Hl hc,hn];rfl
  ·rintro b _⟨rfl,v,rfl⟩;rw[mu (f_ _)];have e:(0:Int)<p*p:=Int.mul_pos (by exact Int.le_of_lt p0) (by exact Int.le_of_lt p0);exact U rfl (U rfl (U rfl (r2 ⟨.inl ⟨by lia,by lia⟩,_,U rfl ⟨rfl,e,U rfl ⟨_,U rfl ⟨⟨by exact Int.le_of_lt p0,by lia⟩,q⟩⟩⟩⟩)))
def AD(T:Txt K mg a):aO P w K mg base dk 1 a.kL.x a.kL.d ["p","slope","point"] (JC K):=by
 refine T.kL.ok l7 λc A outer s H e Q E f h=>?_
 ·obtain⟨t,p,s,x,y,rfl,b,p0,⟨g,i⟩,q⟩:=h;refine⟨_,(ag (bg 3 l7.nd (df K (Y 2) af)) (ag (bg 4 l7.nd (df K (Y 2) af)) (ag (aJ (aE aS (Y 1) (Y 0) (aF _)) (ah (ax (Y 4))) aC) (ah (ax (av aQ (av bG (Y 3) (av fE (Y 1) (Y 4))) (Y 0))))))),?_⟩
  (iterate 2 refine U rfl (rX b rfl ?_));refine U rfl (U rfl ⟨rfl,U rfl (kS (λh=>?_) (λh=>?_))⟩)
  ·rw[kw h]at q;exact U rfl q
  ·rw[ku h]at q;exact U rfl (U rfl (U rfl (r2 ⟨.inl ⟨by lia,by lia⟩,_,U rfl ⟨rfl,U rfl (r2 ⟨p0,q⟩)⟩⟩)))
def jT(T:Txt K mg a):aO P w K mg base dk 2 a.cb.x a.cb.d ["self","layer","guest"] (Em a):=by
 refine T.cb.ok o9 λf A outer s H r Q E c h=>?_
 ·obtain⟨h,lo,dx,dl,fs,gs,p,m,sl,x,rfl,b,e,g,i,j,k,l,n,q⟩:=h;refine⟨_,(ah (ax (pc T.kL (AD T) c (ac (aG K rfl (Y 0)) (ac (aG K rfl (Y 1)) (ac (pc T.kK (AC T) c (ac (aG K rfl (Y 0)) (ac (aG K rfl (Y 0)) (ac (Y 2) O)))) O)))))),?_⟩;refine U rfl ⟨h,_,dx,_,U rfl ⟨b,T.az,T.bP,e,U rfl ⟨lo,_,dl,_,U rfl ⟨i,T.bJ,T.gj,j,U rfl ⟨h,_,dx,_,U rfl ⟨b,T.az,T.bP,e,U rfl ⟨h,_,dx,_,U rfl ⟨b,T.az,T.jX,g,U rfl ⟨p,m,x,rfl,k,l,λt o=>?_⟩⟩⟩⟩⟩⟩⟩⟩⟩;exact⟨t,p,sl,_,_,rfl,aW.of ae,by lia,n,q _ (aj (am.refl H) o)⟩
end
abbrev aZ(x y:Str):bS:=.inr [.inr x,.inr y]
structure cR where
 nm:Str
 sl:Int
 S:AS
 ins:List (Str×Str×Str)
structure eh where
 nm:Str
 home:Str
 arms:List Str
 rule:Ru
 shuts:List Str
 pau:Bool
 clo:Bool
 bar:List Str
structure cy where
 p:Nat
 salt:Int
 las:List cR
 trs:List eh
 came:List (Str×List (Str×Str))
inductive Ro|hh|ln|tn|ci|dl|lo(i:Nat)|iu(i:Nat)|tb(i:Nat)|od(i:Nat)|td(i:Nat)|tr(i:Nat)|ba(i:Nat)deriving DecidableEq
structure ZS where
 G:Ro->Addr
 dx:Ro->Addr
 cv:List (cg×V)ds:List V
 iv:Nat->List (cg×V)ow:Nat->List (cg×V)tk:Nat->List iz
 ar:Nat->Addr
 ru:Nat->V
 sh:Nat->Addr
def jV:List Str->(Nat->V)->List (cg×V)|[],_=>[]|n::r,f=>(.inr n,f 0)::jV r λi=>f (i+1)
def cont(P:Sb)(w:World)(a:iK)(M:cy)(Z:ZS):Ro->Option HO|.hh=>some (.ins a.bj (Z.dx .hh) [("own_prime",.int M.p),("own_salt",.int M.salt),("layer_named",.ref (Z.G .ln)),("trial_named",.ref (Z.G .tn)),("came_into",.ref (Z.G .ci)),("deeds",.ref (Z.G .dl))])|.ln=>some (.dK (jV (M.las.map cR.nm) λi=>.ref (Z.G (.lo i))))|.tn=>some (.dK (jV (M.trs.map eh.nm) λi=>.ref (Z.G (.tr i))))|.ci=>some (.dK Z.cv)|.dl=>some (.lst Z.ds)|.lo i=>M.las[i]?.map λl=>.ins a.eT (Z.dx (.lo i)) [("slope",.int l.sl),("table",.ref (Z.G (.tb i))),("inside",.ref (Z.G (.iu i)))]|.iu i=>M.las[i]?.map λ_=>.dK (Z.iv i)|.tb i=>M.las[i]?.map λ_=>.ins a.bN (Z.dx (.tb i)) [("many",.int M.p),("owners",.ref (Z.G (.od i))),("taken",.ref (Z.G (.td i)))]|.od i=>M.las[i]?.map λ_=>.dK (Z.ow i)|.td i=>M.las[i]?.map λ_=>dM P w (Z.G (.td i)) (Z.tk i)|.tr i=>M.trs[i]?.map λt=>.ins a.fC (Z.dx (.tr i)) [("home",.str t.home),("arms",.ref (Z.ar i)),("rule",Z.ru i),("shuts",.ref (Z.sh i)),("paused",.bl t.pau),("closed",.bl t.clo),("barred",.ref (Z.G (.ba i)))]|.ba i=>M.trs[i]?.map λt=>.dK (t.bar.map λg=>(.inr g,.bl true))
def ca(K:R7)(H:Hp)(iv:List (cg×V))(ins:List (Str×Str×Str)):Prop:=Paired (λ(x:cg×V)(y:Str×Str×Str)=>x.1=.inr y.1/\∃s,x.2=.ref s/\aW K H s [.str y.2.1,.str y.2.2]) iv ins
def iH(K:R7)(H:Hp)(c:List V)(d:List (Str×Str)):Prop:=Paired (λ(u:V)(y:Str×Str)=>∃s,u=.ref s/\aW K H s [.str y.1,.str y.2]) c d
def eB(K:R7)(H:Hp)(dl:Addr)(cv:List (cg×V))(cm:List (Str×List (Str×Str))):Prop:=Paired (λ(x:cg×V)(y:Str×List (Str×Str))=>x.1=.inr y.1/\∃l b,x.2=.ref l/\l≠dl/\H l=some (.lst b)/\iH K H b y.2) cv cm
structure Im(dl:Addr)(H H':Hp):Prop where
 kp:Kp H H'
 ls:∀b xs,H b=some (.lst xs)->b≠dl->H' b=some (.lst xs)
section
variable{K:R7}{H a:Hp}{dl:Addr}
theorem Im.of(h:am H a):Im dl H a:=⟨.of h,λb c e _=>h b _ e⟩
def ca.kp(e:Kp H a)(h:ca K H iv ins):ca K a iv ins:=Paired.mapP h λ_ _ q=>⟨q.1,q.2.imp λ_ q=>⟨q.1,e.tq q.2⟩⟩
def iH.kp(e:Kp H a)(h:iH K H c d):iH K a c d:=Paired.mapP h λ_ _ q=>q.imp λ_ q=>⟨q.1,e.tq q.2⟩
def eB.im(e:Im dl H a)(h:eB K H dl cv cm):eB K a dl cv cm:=Paired.mapP h λ_ _ q=>⟨q.1,q.2.imp λ_ q=>q.imp λ_ q=>⟨q.1,q.2.1,e.ls _ _ q.2.2.1 q.2.1,q.2.2.2.kp e.kp⟩⟩
def fe.im(e:Im dl H a)(n:∀x∈tk,x.2.2≠.ref dl)(h:fe H tk m):fe a tk m:=Paired.mapM h λx b _ q=>⟨q.1,q.2.1,q.2.2.imp λ_ q=>⟨q.1,e.ls _ _ q.2 λz=>n x b (by rw[q.1,z])⟩⟩
end
structure bA(P:Sb)(w:World)(K:R7)(a:iK)(H:Hp)(M:cy)(Z:ZS):Prop where
 inj:∀r r' o o',cont P w a M Z r=some o->cont P w a M Z r'=some o'->Z.G r=Z.G r'->r=r'
 at_:∀r o,cont P w a M Z r=some o->H (Z.G r)=some o
 seats:∀i l,M.las[i]?=some l->ca K H (Z.iv i) l.ins
 trs:∀i t,M.trs[i]?=some t->aW K H (Z.ar i) (t.arms.map V.str)/\ff K H t.rule (Z.ru i)/\aW K H (Z.sh i) (t.shuts.map V.str)tabs:∀i l,M.las[i]?=some l->dF K H (Z.tk i)/\(∃m,fe H (Z.tk i) m/\jH M.p l.S (Z.ow i) m)/\wf (cN K H) M.p l.S (Z.ow i)/\∀x∈Z.tk i,x.2.2≠.ref (Z.G .dl)came:eB K H (Z.G .dl) Z.cv M.came
section
variable{P:Sb}{w:World}{K:R7}{a:iK}{H H':Hp}{M s:cy}{Z c:ZS}
def bA.imm(h:bA P w K a H M Z)(e:cont P w a M Z r=some o)(f:∀b o,H b=some o->b≠Z.G r->H' b=some o):Im (Z.G .dl) H H':=by
 have g:=h.at_ r o e;have i:(∀d,o≠.tup d)/\(∀x y,o≠.frz x y)/\∀d,o=.lst d->r=.dl:=by
  cases r<;>simp only[cont,Option.map_eq_some_iff,QS]at e
  case hh=>subst e;exact⟨λ_ z=>(nomatch z),λ_ _ z=>(nomatch z),λ_ z=>(nomatch z)⟩
  case ln=>subst e;exact⟨λ_ z=>(nomatch z),λ_ _ z=>(nomatch z),λ_ z=>(nomatch z)⟩
  case tn=>subst e;exact⟨λ_ z=>(nomatch z),λ_ _ z=>(nomatch z),λ_ z=>(nomatch z)⟩
  case ci=>subst e;exact⟨λ_ z=>(nomatch z),λ_ _ z=>(nomatch z),λ_ z=>(nomatch z)⟩
  case dl=>subst e;exact⟨λ_ z=>(nomatch z),λ_ _ z=>(nomatch z),λ_ _=>rfl⟩
  all_goals obtain⟨_,_,e⟩:=e;subst e;exact⟨λ_ z=>(nomatch z),λ_ _ z=>(nomatch z),λ_ z=>(nomatch z)⟩
 obtain⟨j,k,l⟩:=i;refine⟨⟨λu d q=>f _ _ q λz=>?_,λu x⟨m,q⟩=>⟨m,f _ _ q λz=>?_⟩⟩,λb d q n=>f _ _ q λz=>?_⟩
 ·rw[z,g]at q;exact j _ (m_ q)
 ·rw[z,g]at q;exact k _ _ (m_ q)
 ·rw[z,g]at q;exact n (by rw[z,l _ (m_ q)])
def bA.set(h:bA P w K a H M Z)(f:cont P w a M Z d=some C)(v:∀b o,H b=some o->b≠Z.G d->H' b=some o)(u:c.G=Z.G)(j:∀r o,cont P w a s c r=some o->(r=d/\H' (Z.G d)=some o)\/(r≠d/\cont P w a M Z r=some o))(seats:∀i l,s.las[i]?=some l->ca K H' (c.iv i) l.ins)(trs:∀i t,s.trs[i]?=some t->aW K H' (c.ar i) (t.arms.map V.str)/\ff K H' t.rule (c.ru i)/\aW K H' (c.sh i) (t.shuts.map V.str))(tabs:∀i l,s.las[i]?=some l->dF K H' (c.tk i)/\(∃m,fe H' (c.tk i) m/\jH s.p l.S (c.ow i) m)/\wf (cN K H') s.p l.S (c.ow i)/\∀x∈c.tk i,x.2.2≠.ref (c.G .dl))(came:eB K H' (c.G .dl) c.cv s.came):bA P w K a H' s c:=by
 refine⟨λr y o A e B g=>?_,λr o e=>?_,seats,trs,tabs,came⟩
 ·rw[u]at g;rcases j r o e with⟨rfl,_⟩|⟨_,q⟩<;>rcases j y A B with⟨rfl,_⟩|⟨_,k⟩
  ·rfl
  ·exact h.inj _ _ _ _ f k g
  ·exact h.inj _ _ _ _ q f g
  ·exact h.inj _ _ _ _ q k g
 ·rw[u];rcases j r o e with⟨rfl,q⟩|⟨n,q⟩
  ·exact q
  ·exact v _ _ (h.at_ _ _ q) λz=>n (h.inj _ _ _ _ q f z)
def bA.trsI(h:bA P w K a H M Z)(e:Kp H H'):∀i t,M.trs[i]?=some t->aW K H' (Z.ar i) (t.arms.map V.str)/\ff K H' t.rule (Z.ru i)/\aW K H' (Z.sh i) (t.shuts.map V.str):=λi t b=>let⟨h1,h2,h3⟩:=h.trs i t b;⟨e.tq h1,h2.kp e,e.tq h3⟩
def bA.tabsI(h:bA P w K a H M Z)(e:Im (Z.G .dl) H H'):∀i l,M.las[i]?=some l->dF K H' (Z.tk i)/\(∃m,fe H' (Z.tk i) m/\jH M.p l.S (Z.ow i) m)/\wf (cN K H') M.p l.S (Z.ow i)/\∀x∈Z.tk i,x.2.2≠.ref (Z.G .dl):=λi l b=>let⟨h1,⟨m,h2,h3⟩,h4,h5⟩:=h.tabs i l b;⟨λx d=>dC e.kp (h1 x d),⟨m,h2.im e h5,h3⟩,h4.mono λ_ _ q=>dC e.kp q,h5⟩
def bA.same(h:bA P w K a H M Z)(e:am H H'):bA P w K a H' M Z:=⟨h.inj,λr o q=>e _ _ (h.at_ r o q),λi l b=>(h.seats i l b).kp (.of e),h.trsI (.of e),h.tabsI (.of e),h.came.im (.of e)⟩
def hU{d l:Type}{g:List d}{i:Nat}{x y:d}(h:g[i]?=some x)(f:d->l)(e:f y=f x)(j:Nat):(g.set i y)[j]?.map f=g[j]?.map f:=by
 rw[QU]
 by_cases q:i=j
 ·subst q;rw[kw rfl,kw (d_.mp h).1,h];exact tA some e
 ·rw[ku q]
def eg{d l:Type}{g:List d}{i:Nat}{x y:d}(h:g[i]?=some x)(f:d->l)(e:f y=f x):(g.set i y).map f=g.map f:=y2 λj=>by rw[j_,j_];exact hU h f e j
def oV{d:Type}{f:List d}{i j:Nat}{y z:d}(e:(f.set i y)[j]?=some z):(j=i/\z=y)\/(j≠i/\f[j]?=some z):=by
 rw[QU]at e
 by_cases q:i=j
 ·rw[kw q]at e
  split at e
  ·exact .inl ⟨q.symm,(m_ e).symm⟩
  ·cases e
 ·rw[ku q]at e;exact .inr ⟨λz=>q z.symm,e⟩
def Br{i:Nat}{l l':cR}(d:M.las[i]?=some l)(h1:l'.nm=l.nm)(h2:l'.sl=l.sl)(r:Ro):cont P w a {M with las:=M.las.set i l'} Z r=cont P w a M Z r:=by cases r with|ln=>exact tA (λns=>some (HO.dK (jV ns λi=>.ref (Z.G (.lo i))))) (eg d cR.nm h1)|lo j=>exact hU d _ (by rw[h2]) j|iu j=>exact hU (y:=l') d _ rfl j|tb j=>exact hU (y:=l') d _ rfl j|od j=>exact hU (y:=l') d _ rfl j|td j=>exact hU (y:=l') d _ rfl j|_=>rfl
def IA{i:Nat}{t d:eh}(e:M.trs[i]?=some t)(h1:d.nm=t.nm)(r:Ro)(h2:r=.tr i->d.home=t.home/\d.pau=t.pau/\d.clo=t.clo)(h3:r=.ba i->d.bar=t.bar):cont P w a {M with trs:=M.trs.set i d} Z r=cont P w a M Z r:=by
 cases r with|tn=>exact tA (λns=>some (HO.dK (jV ns λi=>.ref (Z.G (.tr i))))) (eg e eh.nm h1)|tr j=>
  by_cases q:j=i
  ·subst q;obtain⟨a1,b,f⟩:=h2 rfl;exact hU e _ (by rw[a1,b,f]) j
  ·show((M.trs.set i d)[j]?).map _=_;rw[ry (λz=>q z.symm)];rfl|ba j=>
  by_cases q:j=i
  ·subst q;exact hU e _ (by rw[h3 rfl]) j
  ·show((M.trs.set i d)[j]?).map _=_;rw[ry (λz=>q z.symm)];rfl|_=>rfl
def cA:∀b o,H b=some o->b≠x->aA H x o' b=some o:=λb o e n=>by rw[ak n];exact e
def bA.setIns(h:bA P w K a H M Z){i:Nat}{l:cR}{ins':List (Str×Str×Str)}{iv':List (cg×V)}(d:M.las[i]?=some l)(p:ca K H iv' ins'):bA P w K a (aA H (Z.G (.iu i)) (.dK iv')) {M with las:=M.las.set i {l with ins:=ins'}} {Z with iv:=λj=>if j=i then iv' else Z.iv j}:=by
 have g:cont P w a M Z (.iu i)=some (.dK (Z.iv i)):=by simp[cont,d]
 have im:=h.imm g (cA (o':=.dK iv'));refine h.set g cA rfl (λr o e=>?_) (λj b e=>?_) (h.trsI im.kp) (λj b e=>?_) (h.came.im im)
 ·rw[Br (l':={l with ins:=ins'}) d rfl rfl]at e
  by_cases f:r=.iu i
  ·subst f;refine .inl ⟨rfl,?_⟩;rw[ae,<-e];simp[cont,d]
  ·refine .inr ⟨f,?_⟩;rw[<-e];cases r with|iu j=>show _=M.las[j]?.map λ_=>HO.dK (if j=i then iv' else Z.iv j);rw[ku λz=>f (by rw[z])];rfl|_=>rfl
 ·rcases oV e with⟨rfl,rfl⟩|⟨n,q⟩
  ·show ca K _ (if j=j then iv' else Z.iv j) ins';rw[kw rfl];exact p.kp im.kp
  ·show ca K _ (if j=i then iv' else Z.iv j) b.ins;rw[ku n];exact(h.seats j b q).kp im.kp
 ·rcases oV e with⟨rfl,rfl⟩|⟨n,q⟩
  ·exact h.tabsI im _ l d
  ·exact h.tabsI im j b q
def bA.setTr(h:bA P w K a H M Z){i:Nat}{t t':eh}{r0:Ro}{o':HO}(d:M.trs[i]?=some t)(h1:t'.nm=t.nm)(h2:t'.arms=t.arms)(h3:t'.rule=t.rule)(h4:t'.shuts=t.shuts)(f:(r0=.tr i/\t'.bar=t.bar)\/(r0=.ba i/\t'.home=t.home/\t'.pau=t.pau/\t'.clo=t.clo))(l:cont P w a {M with trs:=M.trs.set i t'} Z r0=some o'):bA P w K a (aA H (Z.G r0) o') {M with trs:=M.trs.set i t'} Z:=by
 obtain⟨g,k⟩:∃g,cont P w a M Z r0=some g:=by rcases f with⟨rfl,_⟩|⟨rfl,_⟩<;>exact⟨_,by simp only[cont,d];rfl⟩
 have im:=h.imm k (cA (o':=o'));refine h.set k cA rfl (λr o e=>?_) (λj m e=>(h.seats j m e).kp im.kp) (λj p e=>?_) (h.tabsI im) (h.came.im im)
 ·by_cases b:r=r0
  ·subst b;rw[l]at e;exact .inl ⟨rfl,by rw[ae];exact e⟩
  ·refine .inr ⟨b,?_⟩;rw[<-e];refine(IA d h1 r (λz=>?_) λz=>?_).symm
   ·rcases f with⟨q,_⟩|⟨_,q⟩
    ·exact absurd (z.trans q.symm) b
    ·exact q
   ·rcases f with⟨_,q⟩|⟨q,_⟩
    ·exact q
    ·exact absurd (z.trans q.symm) b
 ·rcases oV e with⟨rfl,rfl⟩|⟨n,q⟩
  ·rw[h2,h3,h4];exact h.trsI im.kp _ t d
  ·exact h.trsI im.kp j p q
def bA.deed(h:bA P w K a H M Z)(d:V):bA P w K a (aA H (Z.G .dl) (.lst (Z.ds++[d]))) M {Z with ds:=Z.ds++[d]}:=by
 have f:cont P w a M Z .dl=some (.lst Z.ds):=rfl;have im:=h.imm f (cA (o':=.lst (Z.ds++[d])));refine h.set f cA rfl (λr o e=>?_) (λj g e=>(h.seats j g e).kp im.kp) (h.trsI im.kp) (h.tabsI im) (h.came.im im)
 by_cases b:r=.dl
 ·subst b;exact .inl ⟨rfl,by rw[ae];exact e⟩
 ·refine .inr ⟨b,?_⟩;rw[<-e];cases r with|dl=>exact absurd rfl b|_=>rfl
def bA.setCame(h:bA P w K a H M Z)(hc:eB K H (Z.G .dl) d f):bA P w K a (aA H (Z.G .ci) (.dK d)) {M with came:=f} {Z with cv:=d}:=by
 have g:cont P w a M Z .ci=some (.dK Z.cv):=rfl;have im:=h.imm g (cA (o':=.dK d));refine h.set g cA rfl (λr o e=>?_) (λj i e=>(h.seats j i e).kp im.kp) (h.trsI im.kp) (h.tabsI im) (hc.im im)
 by_cases b:r=.ci
 ·subst b;exact .inl ⟨rfl,by rw[ae];exact e⟩
 ·refine .inr ⟨b,?_⟩;rw[<-e];cases r with|ci=>exact absurd rfl b|_=>rfl
end
theorem yO:∀(ns:Sc)(x:Str)(f:Nat->V),jV (ns++[x]) f=jV ns f++[(.inr x,f ns.length)]|[],_,_=>rfl|n::r,x,f=>by show(Sum.inr n,f 0)::jV (r++[x]) _=(Sum.inr n,f 0)::(jV r _++_);rw[yO r x];rfl
theorem qQ:∀{ns:Sc}{f g:Nat->V},(∀i,i<ns.length->f i=g i)->jV ns f=jV ns g|[],_,_,_=>rfl|n::r,f,g,h=>by show(Sum.inr n,f 0)::jV r _=(Sum.inr n,g 0)::jV r _;rw[h 0 (by simp),qQ (ns:=r) (f:=λi=>f (i+1)) (g:=λi=>g (i+1)) λi hi=>h (i+1) (by simpa using hi)]
theorem iW:∀(ns:Sc)(f:Nat->V),(jV ns f).length=ns.length|[],_=>rfl|n::r,f=>by rw[jV,ol,ol,iW r]
theorem tZ:∀{ns:Sc}{f:Nat->V}{i:Nat}{x:Str},ns.Nodup->ns[i]?=some x->bp (jV ns f) (.inr x)=some (f i)
 |[],_,i,_,_,h=>by simp at h|n::r,f,0,x,_,h=>by
  have e:n=x:=by simpa using h
  exact cz (by rw[e])|n::r,f,i+1,x,hn,h=>by
  have h:r[i]?=some x:=by simpa using h
  rw[R4]at hn;have ne:n≠x:=λz=>hn.1 (by rw[z];exact i_ h);show bp ((Sum.inr n,f 0)::jV r _) _=_;rw[bK λz=>ne (sT z)];exact tZ hn.2 h
theorem my:∀{ns:Sc}{f:Nat->V}{x:Str},x∉ns->bp (jV ns f) (.inr x)=none|[],_,_,_=>rfl|n::r,f,x,h=>by show bp ((Sum.inr n,f 0)::jV r _) _=_;rw[bK λz=>h (by rw[sT z];exact mm)];exact my λz=>h (k4 _ z)
theorem yN:∀{ns:Sc}{f:Nat->V}{i:Nat},(jV ns f)[i]?=ns[i]?.map λx=>(.inr x,f i)|[],_,i=>by simp[jV]|n::r,f,0=>rfl|n::r,f,i+1=>by show(jV r λi=>f (i+1))[i]?=_;rw[yN];simp
section
variable{P:Sb}{w:World}{K:R7}{a:iK}{H c:Hp}{M:cy}{Z:ZS}
def bA.tab(h:bA P w K a H M Z)(d:M.las[i]?=some l):∃m,eI P w K a.bN H (Z.G (.tb i)) (Z.G (.od i)) (Z.G (.td i)) M.p (Z.ow i) (Z.tk i) m/\jH M.p l.S (Z.ow i) m:=by obtain⟨h1,⟨m,h2,h3⟩,_⟩:=h.tabs i l d;exact⟨m,⟨⟨_,h.at_ (.tb i) _ (by simp only[cont,d];rfl)⟩,h.at_ (.od i) _ (by simp only[cont,d];rfl),h.at_ (.td i) _ (by simp only[cont,d];rfl),h1,h2⟩,h3⟩
def bA.told(h:bA P w K a H M Z)(s:M.las[i]?=some l)(o:mJ (Z.G (.od i)) (Z.G (.td i)) H c)(C:eI P w K a.bN c (Z.G (.tb i)) (Z.G (.od i)) (Z.G (.td i)) M.p f d I)(L:jH M.p t f I)(N:wf (cN K H) M.p t f)(Q:fj H (Z.tk i) d):bA P w K a c {M with las:=M.las.set i {l with S:=t}} {Z with ow:=λj=>if j=i then f else Z.ow j,tk:=λj=>if j=i then d else Z.tk j}:=by
 obtain⟨m,J,_⟩:=h.tab s;have im:Im (Z.G .dl) H c:=by
  have g:∀b ob,H b=some ob->(∀D,ob≠.dK D)->(∀φ,ob≠.ext φ)->c b=some ob:=λb ob e h1 h2=>o b ob e (λz=>by rw[z,J.own]at e;cases e;exact h1 _ rfl) (λz=>by rw[z,J.tak]at e;cases e;exact h2 _ rfl)
  exact⟨⟨λu O e=>g _ _ e (λ_ z=>(nomatch z)) (λ_ z=>(nomatch z)),λu x⟨E,e⟩=>⟨E,g _ _ e (λ_ z=>(nomatch z)) (λ_ z=>(nomatch z))⟩⟩,λb O e _=>g _ _ e (λ_ z=>(nomatch z)) (λ_ z=>(nomatch z))⟩
 have v:∀r ob,cont P w a {M with las:=M.las.set i {l with S:=t}} {Z with ow:=λj=>if j=i then f else Z.ow j,tk:=λj=>if j=i then d else Z.tk j} r=some ob->(r=.od i/\ob=.dK f)\/(r=.td i/\ob=dM P w (Z.G (.td i)) d)\/(r≠.od i/\r≠.td i/\cont P w a M Z r=some ob):=λr ob e=>by
  rw[Br (l':={l with S:=t}) s rfl rfl]at e;cases r with|od j=>
   by_cases q:j=i
   ·subst q;have e:(M.las[j]?.map λ_=>HO.dK (if j=j then f else Z.ow j))=some ob:=e;rw[s,kw rfl]at e;exact .inl ⟨rfl,(m_ e).symm⟩
   ·have e:(M.las[j]?.map λ_=>HO.dK (if j=i then f else Z.ow j))=some ob:=e;rw[ku q]at e;exact .inr (.inr ⟨λz=>q (by injection z),λz=>(nomatch z),e⟩)|td j=>
   by_cases q:j=i
   ·subst q;have e:(M.las[j]?.map λ_=>dM P w (Z.G (.td j)) (if j=j then d else Z.tk j))=some ob:=e;rw[s,kw rfl]at e;exact .inr (.inl ⟨rfl,(m_ e).symm⟩)
   ·have e:(M.las[j]?.map λ_=>dM P w (Z.G (.td j)) (if j=i then d else Z.tk j))=some ob:=e;rw[ku q]at e;exact .inr (.inr ⟨λz=>(nomatch z),λz=>q (by injection z),e⟩)|_=>exact .inr (.inr ⟨λz=>(nomatch z),λz=>(nomatch z),e⟩)
 have A:cont P w a M Z (.od i)=some (.dK (Z.ow i)):=by simp only[cont,s];rfl
 have B:cont P w a M Z (.td i)=some (dM P w (Z.G (.td i)) (Z.tk i)):=by simp only[cont,s];rfl
 have live:∀r ob,cont P w a {M with las:=M.las.set i {l with S:=t}} {Z with ow:=λj=>if j=i then f else Z.ow j,tk:=λj=>if j=i then d else Z.tk j} r=some ob->∃E,cont P w a M Z r=some E:=λr ob e=>by
  rcases v r ob e with⟨rfl,_⟩|⟨rfl,_⟩|⟨_,_,q⟩
  ·exact⟨_,A⟩
  ·exact⟨_,B⟩
  ·exact⟨_,q⟩
 refine⟨λr R ob F e T g=>?_,λr ob e=>?_,λj k e=>?_,h.trsI im.kp,λj k e=>?_,h.came.im im⟩
 ·obtain⟨_,q⟩:=live r ob e;obtain⟨_,U⟩:=live R F T;exact h.inj _ _ _ _ q U g
 ·rcases v r ob e with⟨rfl,rfl⟩|⟨rfl,rfl⟩|⟨n1,n2,q⟩
  ·exact C.own
  ·exact C.tak
  ·exact o _ _ (h.at_ _ _ q) (λz=>n1 (h.inj _ _ _ _ q A z)) (λz=>n2 (h.inj _ _ _ _ q B z))
 ·rcases oV e with⟨rfl,rfl⟩|⟨n,q⟩
  ·exact(h.seats _ l s).kp im.kp
  ·exact(h.seats j k q).kp im.kp
 ·rcases oV e with⟨rfl,rfl⟩|⟨n,q⟩
  ·show dF K c (if j=j then d else Z.tk j)/\(∃m,fe c (if j=j then d else Z.tk j) m/\jH M.p t (if j=j then f else Z.ow j) m)/\wf (cN K c) M.p t (if j=j then f else Z.ow j)/\∀x∈(if j=j then d else Z.tk j),x.2.2≠.ref (Z.G .dl);rw[kw rfl,kw rfl];refine⟨C.keys,⟨I,C.lsts,L⟩,N.mono λ_ _ q=>dC im.kp q,λx V z=>?_⟩;rcases Q x V with⟨y,W,e⟩|⟨X,e,hn⟩
   ·exact(h.tabs _ l s).2.2.2 y W (e.trans z)
   ·rw[e]at z;cases z;rw[h.at_ .dl _ rfl]at hn;cases hn
  ·show dF K c (if j=i then d else Z.tk j)/\(∃m,fe c (if j=i then d else Z.tk j) m/\jH M.p k.S (if j=i then f else Z.ow j) m)/\wf (cN K c) M.p k.S (if j=i then f else Z.ow j)/\∀x∈(if j=i then d else Z.tk j),x.2.2≠.ref (Z.G .dl);rw[ku n,ku n];exact h.tabsI im j k q
end
def xk(c d:Nat):Ro->Prop|.lo i=>i<c|.iu i=>i<c|.tb i=>i<c|.od i=>i<c|.td i=>i<c|.tr i=>i<d|.ba i=>i<d|_=>True
def rH(e:cont P w a M Z r=some o):xk M.las.length M.trs.length r:=by cases r<;>first|exact trivial|(obtain⟨y,h1,_⟩:=Option.map_eq_some_iff.mp e;exact(d_.mp h1).1)
def mY(P:Sb)(w:World)(a:iK)(Z:ZS)(h:xk M.las.length M.trs.length r):∃o,cont P w a M Z r=some o:=by cases r<;>first|exact⟨_,rfl⟩|(have h:_<M.las.length:=h;exact⟨_,by simp only[cont,h_ h];rfl⟩)|(have h:_<M.trs.length:=h;exact⟨_,by simp only[cont,h_ h];rfl⟩)
def ZS.newL(Z:ZS)(n:Nat)(lo e t f g c d:Addr):ZS:={Z with
 G:=λr=>if r=.lo n then lo else if r=.iu n then e else if r=.tb n then t else if r=.od n then f else if r=.td n then g else Z.G r
 dx:=λr=>if r=.lo n then c else if r=.tb n then d else Z.dx r
 iv:=λj=>if j=n then[]else Z.iv j
 ow:=λj=>if j=n then[]else Z.ow j
 tk:=λj=>if j=n then[]else Z.tk j}
def ZS.newT(Z:ZS)(n:Nat)(t c dx ar:Addr)(ru:V)(sh:Addr):ZS:={Z with
 G:=λr=>if r=.tr n then t else if r=.ba n then c else Z.G r
 dx:=λr=>if r=.tr n then dx else Z.dx r
 ar:=λj=>if j=n then ar else Z.ar j
 ru:=λj=>if j=n then ru else Z.ru j
 sh:=λj=>if j=n then sh else Z.sh j}
def oT(e:(c++[x])[j]?=some y):(j=c.length/\y=x)\/(j≠c.length/\c[j]?=some y):=by
 rcases Nat.lt_trichotomy j c.length with q|q|q
 ·rw[so q]at e;exact .inr ⟨l_ q,e⟩
 ·subst q;rw[List.getElem?_concat_length]at e;exact .inl ⟨rfl,(m_ e).symm⟩
 ·rw[pa (by simp;exact q)]at e;cases e
def i9(e:(c++[x])[j]?.map f=some o):(j=c.length/\o=f x)\/(j≠c.length/\c[j]?.map f=some o):=by
 obtain⟨y,h1,h2⟩:=Option.map_eq_some_iff.mp e;rcases oT h1 with⟨q,rfl⟩|⟨q,z⟩
 ·exact .inl ⟨q,h2.symm⟩
 ·exact .inr ⟨q,by rw[z];exact tA some h2⟩
section
variable{P:Sb}{w:World}{K:R7}{a:iK}{H H':Hp}{M:cy}{Z:ZS}
theorem bA.newL(h:bA P w K a H M Z)(h1:H lo=none)(h2:H iu=none)(h3:H t=none)(h4:H od=none)(h5:H td=none)(D:od≠iu)(l:∀b o,H b=some o->b≠Z.G .ln->H' b=some o)(Q:H' (Z.G .ln)=some (.dK (jV (M.las.map cR.nm) (λi=>.ref (Z.G (.lo i)))++[(.inr nm,.ref lo)])))(R:H' lo=some (.ins a.eT c [("slope",.int sl),("table",.ref t),("inside",.ref iu)]))(T:eI P w K a.bN H' t od td M.p [] [] [])(E:lo≠t)(W:H' iu=some (.dK [])):∃s,s.G .hh=Z.G .hh/\s.G .dl=Z.G .dl/\s.ds=Z.ds/\(∀j,s.tk j=(if j=M.las.length then[]else Z.tk j)/\s.ow j=(if j=M.las.length then[]else Z.ow j))/\s.cv=Z.cv/\bA P w K a H' {M with las:=M.las++[⟨nm,sl,AS.new,[]⟩]} s/\∀r,xk (M.las.length+1) M.trs.length r->H (s.G r)=none\/(s.G r=Z.G r/\xk M.las.length M.trs.length r):=by
 obtain⟨d,O⟩:=T.ins;have im:=h.imm (r:=.ln) rfl l;have F:(M.las.map cR.nm).length=M.las.length:=c_ ..;have u:∀r o,cont P w a {M with las:=M.las++[⟨nm,sl,AS.new,[]⟩]} (Z.newL M.las.length lo iu t od td c d) r=some o->(H' ((Z.newL M.las.length lo iu t od td c d).G r)=some o/\(r=.lo M.las.length\/r=.iu M.las.length\/r=.tb M.las.length\/r=.od M.las.length\/r=.td M.las.length))\/((Z.newL M.las.length lo iu t od td c d).G r=Z.G r/\H' (Z.G r)=some o/\∃U,cont P w a M Z r=some U):=λr o e=>by
  cases r with|hh=>exact .inr ⟨rfl,l _ _ (h.at_ .hh _ e) λz=>(nomatch h.inj .hh .ln _ _ rfl rfl z),_,e⟩|tn=>exact .inr ⟨rfl,l _ _ (h.at_ .tn _ e) λz=>(nomatch h.inj .tn .ln _ _ rfl rfl z),_,e⟩|ci=>exact .inr ⟨rfl,l _ _ (h.at_ .ci _ e) λz=>(nomatch h.inj .ci .ln _ _ rfl rfl z),_,e⟩|dl=>exact .inr ⟨rfl,l _ _ (h.at_ .dl _ e) λz=>(nomatch h.inj .dl .ln _ _ rfl rfl z),_,e⟩|tr j=>exact .inr ⟨rfl,l _ _ (h.at_ (.tr j) _ e) λz=>(nomatch h.inj (.tr j) .ln _ _ e rfl z),_,e⟩|ba j=>exact .inr ⟨rfl,l _ _ (h.at_ (.ba j) _ e) λz=>(nomatch h.inj (.ba j) .ln _ _ e rfl z),_,e⟩|ln=>refine .inr ⟨rfl,?_,_,rfl⟩;rw[Q,<-e];show _=some (HO.dK (jV ((M.las++[(⟨nm,sl,AS.new,[]⟩:cR)]).map cR.nm) λi=>V.ref ((Z.newL M.las.length lo iu t od td c d).G (.lo i))));rw[k_,QO,yO,F];have e1:(Z.newL M.las.length lo iu t od td c d).G (.lo M.las.length)=lo:=kw rfl;rw[e1,qQ (f:=λi=>V.ref ((Z.newL M.las.length lo iu t od td c d).G (.lo i))) (g:=λi=>V.ref (Z.G (.lo i)))];intro i hi;rw[F]at hi;have n:∀x:Nat->Ro,(∀i j,x i=x j->i=j)->x i≠x M.las.length:=λx I z=>l_ hi (I _ _ z);show V.ref (if Ro.lo i=.lo M.las.length then lo else _)=_;rw[ku (n Ro.lo λ_ _ z=>by injection z)];rfl|lo j=>
   rcases i9 e with⟨rfl,rfl⟩|⟨q,e⟩
   ·refine .inl ⟨?_,.inl rfl⟩;have B:(Z.newL M.las.length lo iu t od td c d).G (.lo M.las.length)=lo:=kw rfl;have X:(Z.newL M.las.length lo iu t od td c d).G (.tb M.las.length)=t:=by simp[ZS.newL]
    have y:(Z.newL M.las.length lo iu t od td c d).G (.iu M.las.length)=iu:=by simp[ZS.newL]
    have A:(Z.newL M.las.length lo iu t od td c d).dx (.lo M.las.length)=c:=kw rfl;rw[B,X,y,A];exact R
   ·have e:cont P w a M Z (.lo j)=some o:=by rw[<-e];simp[cont,ZS.newL,q]
    exact .inr ⟨by simp[ZS.newL,q],l _ _ (h.at_ (.lo j) _ e) λz=>(nomatch h.inj (.lo j) .ln _ _ e rfl z),_,e⟩|iu j=>
   rcases i9 e with⟨rfl,rfl⟩|⟨q,e⟩
   ·refine .inl ⟨?_,.inr (.inl rfl)⟩;have y:(Z.newL M.las.length lo iu t od td c d).G (.iu M.las.length)=iu:=by simp[ZS.newL]
    have A:(Z.newL M.las.length lo iu t od td c d).iv M.las.length=[]:=kw rfl;rw[y,A];exact W
   ·have e:cont P w a M Z (.iu j)=some o:=by rw[<-e];simp[cont,ZS.newL,q]
    exact .inr ⟨by simp[ZS.newL,q],l _ _ (h.at_ (.iu j) _ e) λz=>(nomatch h.inj (.iu j) .ln _ _ e rfl z),_,e⟩|tb j=>
   rcases i9 e with⟨rfl,rfl⟩|⟨q,e⟩
   ·refine .inl ⟨?_,.inr (.inr (.inl rfl))⟩;have X:(Z.newL M.las.length lo iu t od td c d).G (.tb M.las.length)=t:=by simp[ZS.newL]
    have y:(Z.newL M.las.length lo iu t od td c d).G (.od M.las.length)=od:=by simp[ZS.newL]
    have g5:(Z.newL M.las.length lo iu t od td c d).G (.td M.las.length)=td:=by simp[ZS.newL]
    have A:(Z.newL M.las.length lo iu t od td c d).dx (.tb M.las.length)=d:=by simp[ZS.newL]
    rw[X,y,A,g5];exact O
   ·have e:cont P w a M Z (.tb j)=some o:=by rw[<-e];simp[cont,ZS.newL,q]
    exact .inr ⟨by simp[ZS.newL,q],l _ _ (h.at_ (.tb j) _ e) λz=>(nomatch h.inj (.tb j) .ln _ _ e rfl z),_,e⟩|od j=>
   rcases i9 e with⟨rfl,rfl⟩|⟨q,e⟩
   ·refine .inl ⟨?_,.inr (.inr (.inr (.inl rfl)))⟩;have y:(Z.newL M.las.length lo iu t od td c d).G (.od M.las.length)=od:=by simp[ZS.newL]
    have A:(Z.newL M.las.length lo iu t od td c d).ow M.las.length=[]:=kw rfl;rw[y,A];exact T.own
   ·have e:cont P w a M Z (.od j)=some o:=by rw[<-e];simp[cont,ZS.newL,q]
    exact .inr ⟨by simp[ZS.newL,q],l _ _ (h.at_ (.od j) _ e) λz=>(nomatch h.inj (.od j) .ln _ _ e rfl z),_,e⟩|td j=>
   rcases i9 e with⟨rfl,rfl⟩|⟨q,e⟩
   ·refine .inl ⟨?_,.inr (.inr (.inr (.inr rfl)))⟩;have y:(Z.newL M.las.length lo iu t od td c d).G (.td M.las.length)=td:=by simp[ZS.newL]
    have A:(Z.newL M.las.length lo iu t od td c d).tk M.las.length=[]:=kw rfl;rw[y,A];exact T.tak
   ·have e:cont P w a M Z (.td j)=some o:=by rw[<-e];simp[cont,ZS.newL,q]
    exact .inr ⟨by simp[ZS.newL,q],l _ _ (h.at_ (.td j) _ e) λz=>(nomatch h.inj (.td j) .ln _ _ e rfl z),_,e⟩
 have gs:∀r,(r=.lo M.las.length\/r=.iu M.las.length\/r=.tb M.las.length\/r=.od M.las.length\/r=.td M.las.length)->H ((Z.newL M.las.length lo iu t od td c d).G r)=none:=λr Y=>by rcases Y with rfl|rfl|rfl|rfl|rfl<;>simp only[ZS.newL]<;>simp[h1,h2,h3,h4,h5]
 refine⟨Z.newL M.las.length lo iu t od td c d,rfl,rfl,rfl,λj=>⟨rfl,rfl⟩,rfl,⟨λr r' o U e e' g=>?_,λr o e=>?_,λj C e=>?_,h.trsI im.kp,λj C e=>?_,h.came.im im⟩,λr Y=>?_⟩
 ·rcases u r o e with⟨q,n⟩|⟨B,q,x,J⟩<;>rcases u r' U e' with⟨q',n'⟩|⟨L,q',x',N⟩
  ·rw[g,q']at q;have q:=m_ q;rcases n with rfl|rfl|rfl|rfl|rfl<;>rcases n' with rfl|rfl|rfl|rfl|rfl<;>first|rfl|(exfalso;simp[ZS.newL]at g;first|exact E g|exact E g.symm|exact D g|exact D g.symm|(simp[cont]at e e';rw[<-e,<-e']at q;cases q))
  ·rw[L]at g;have:=h.at_ _ _ N;rw[<-g,gs r n]at this;cases this
  ·rw[B]at g;have:=h.at_ _ _ J;rw[g,gs r' n']at this;cases this
  ·rw[B,L]at g;exact h.inj _ _ _ _ J N g
 ·rcases u r o e with⟨q,n⟩|⟨B,q,x,J⟩
  ·exact q
  ·rw[B];exact q
 ·rcases oT e with⟨rfl,rfl⟩|⟨n,q⟩
  ·show ca K H' (if M.las.length=M.las.length then[]else _) [];rw[kw rfl];exact .nil
  ·show ca K H' (if j=M.las.length then[]else Z.iv j) C.ins;rw[ku n];exact(h.seats j C q).kp im.kp
 ·rcases oT e with⟨rfl,rfl⟩|⟨n,q⟩
  ·show dF K H' (if M.las.length=M.las.length then[]else _)/\(∃m,fe H' (if M.las.length=M.las.length then[]else _) m/\jH M.p AS.new (if M.las.length=M.las.length then[]else _) m)/\wf (cN K H') M.p AS.new (if M.las.length=M.las.length then[]else _)/\∀x∈(if M.las.length=M.las.length then[]else Z.tk _),x.2.2≠.ref (Z.G .dl);rw[kw rfl,kw rfl];exact⟨λx I=>(nomatch I),⟨[],.nil,λk=>rfl,λp _ _=>rfl⟩,λp v _ _ z=>(nomatch z),λx I=>(nomatch I)⟩
  ·show dF K H' (if j=M.las.length then[]else Z.tk j)/\(∃m,fe H' (if j=M.las.length then[]else Z.tk j) m/\jH M.p C.S (if j=M.las.length then[]else Z.ow j) m)/\wf (cN K H') M.p C.S (if j=M.las.length then[]else Z.ow j)/\∀x∈(if j=M.las.length then[]else Z.tk j),x.2.2≠.ref (Z.G .dl);rw[ku n,ku n];exact h.tabsI im j C q
 ·obtain⟨o,e⟩:=mY P w a (M:={M with las:=M.las++[⟨nm,sl,AS.new,[]⟩]}) (Z.newL M.las.length lo iu t od td c d) (r:=r) (by simpa using Y);rcases u r o e with⟨_,n⟩|⟨B,_,x,J⟩
  ·exact .inl (gs r n)
  ·exact .inr ⟨B,rH J⟩
theorem bA.newT(h:bA P w K a H M Z){nm home:Str}{arms shuts:Sc}{rule:Ru}{t ba dx ar sh:Addr}{ru:V}(h1:H t=none)(h2:H ba=none)(c:∀b o,H b=some o->b≠Z.G .tn->H' b=some o)(v:H' (Z.G .tn)=some (.dK (jV (M.trs.map eh.nm) (λi=>.ref (Z.G (.tr i)))++[(.inr nm,.ref t)])))(I:H' t=some (.ins a.fC dx [("home",.str home),("arms",.ref ar),("rule",ru),("shuts",.ref sh),("paused",.bl false),("closed",.bl false),("barred",.ref ba)]))(J:H' ba=some (.dK []))(L:aW K H ar (arms.map V.str))(N:ff K H rule ru)(Q:aW K H sh (shuts.map V.str)):∃d,d.G .hh=Z.G .hh/\d.G .dl=Z.G .dl/\d.ds=Z.ds/\d.tk=Z.tk/\d.ow=Z.ow/\d.cv=Z.cv/\bA P w K a H' {M with trs:=M.trs++[⟨nm,home,arms,rule,shuts,false,false,[]⟩]} d/\∀r,xk M.las.length (M.trs.length+1) r->H (d.G r)=none\/(d.G r=Z.G r/\xk M.las.length M.trs.length r):=by
 have im:=h.imm (r:=.tn) rfl c;have m:(M.trs.map eh.nm).length=M.trs.length:=c_ ..;have k:∀r o,cont P w a {M with trs:=M.trs++[⟨nm,home,arms,rule,shuts,false,false,[]⟩]} (Z.newT M.trs.length t ba dx ar ru sh) r=some o->(H' ((Z.newT M.trs.length t ba dx ar ru sh).G r)=some o/\(r=.tr M.trs.length\/r=.ba M.trs.length))\/((Z.newT M.trs.length t ba dx ar ru sh).G r=Z.G r/\H' (Z.G r)=some o/\∃y,cont P w a M Z r=some y):=λr o e=>by
  cases r with|tn=>refine .inr ⟨rfl,?_,_,rfl⟩;rw[v,<-e];show _=some (HO.dK (jV ((M.trs++[(⟨nm,home,arms,rule,shuts,false,false,[]⟩:eh)]).map eh.nm) λi=>V.ref ((Z.newT M.trs.length t ba dx ar ru sh).G (.tr i))));rw[k_,QO,yO,m];have O:(Z.newT M.trs.length t ba dx ar ru sh).G (.tr M.trs.length)=t:=kw rfl;rw[O,qQ (f:=λi=>V.ref ((Z.newT M.trs.length t ba dx ar ru sh).G (.tr i))) (g:=λi=>V.ref (Z.G (.tr i)))];intro i hi;rw[m]at hi;show V.ref (if Ro.tr i=.tr M.trs.length then t else _)=_;rw[ku λz=>l_ hi (by injection z)];rfl|tr j=>
   rcases i9 e with⟨rfl,rfl⟩|⟨q,e⟩
   ·refine .inl ⟨?_,.inl rfl⟩;have l:(Z.newT M.trs.length t ba dx ar ru sh).G (.tr M.trs.length)=t:=kw rfl;have A:(Z.newT M.trs.length t ba dx ar ru sh).G (.ba M.trs.length)=ba:=by simp[ZS.newT]
    have R:(Z.newT M.trs.length t ba dx ar ru sh).dx (.tr M.trs.length)=dx:=kw rfl;have S:(Z.newT M.trs.length t ba dx ar ru sh).ar M.trs.length=ar:=kw rfl;have T:(Z.newT M.trs.length t ba dx ar ru sh).ru M.trs.length=ru:=kw rfl;have U:(Z.newT M.trs.length t ba dx ar ru sh).sh M.trs.length=sh:=kw rfl;rw[l,A,R,S,T,U];exact I
   ·have e:cont P w a M Z (.tr j)=some o:=by rw[<-e];simp[cont,ZS.newT,q]
    exact .inr ⟨by simp[ZS.newT,q],c _ _ (h.at_ (.tr j) _ e) λz=>(nomatch h.inj (.tr j) .tn _ _ e rfl z),_,e⟩|ba j=>
   rcases i9 e with⟨rfl,rfl⟩|⟨q,e⟩
   ·refine .inl ⟨?_,.inr rfl⟩;have A:(Z.newT M.trs.length t ba dx ar ru sh).G (.ba M.trs.length)=ba:=by simp[ZS.newT]
    rw[A];exact J
   ·have e:cont P w a M Z (.ba j)=some o:=by rw[<-e];rfl
    exact .inr ⟨by simp[ZS.newT,q],c _ _ (h.at_ (.ba j) _ e) λz=>(nomatch h.inj (.ba j) .tn _ _ e rfl z),_,e⟩|hh=>exact .inr ⟨rfl,c _ _ (h.at_ .hh _ e) λz=>(nomatch h.inj .hh .tn _ _ rfl rfl z),_,e⟩|ln=>exact .inr ⟨rfl,c _ _ (h.at_ .ln _ e) λz=>(nomatch h.inj .ln .tn _ _ rfl rfl z),_,e⟩|ci=>exact .inr ⟨rfl,c _ _ (h.at_ .ci _ e) λz=>(nomatch h.inj .ci .tn _ _ rfl rfl z),_,e⟩|dl=>exact .inr ⟨rfl,c _ _ (h.at_ .dl _ e) λz=>(nomatch h.inj .dl .tn _ _ rfl rfl z),_,e⟩|lo j=>exact .inr ⟨rfl,c _ _ (h.at_ (.lo j) _ e) λz=>(nomatch h.inj (.lo j) .tn _ _ e rfl z),_,e⟩|iu j=>exact .inr ⟨rfl,c _ _ (h.at_ (.iu j) _ e) λz=>(nomatch h.inj (.iu j) .tn _ _ e rfl z),_,e⟩|tb j=>exact .inr ⟨rfl,c _ _ (h.at_ (.tb j) _ e) λz=>(nomatch h.inj (.tb j) .tn _ _ e rfl z),_,e⟩|od j=>exact .inr ⟨rfl,c _ _ (h.at_ (.od j) _ e) λz=>(nomatch h.inj (.od j) .tn _ _ e rfl z),_,e⟩|td j=>exact .inr ⟨rfl,c _ _ (h.at_ (.td j) _ e) λz=>(nomatch h.inj (.td j) .tn _ _ e rfl z),_,e⟩
 have gs:∀r,(r=.tr M.trs.length\/r=.ba M.trs.length)->H ((Z.newT M.trs.length t ba dx ar ru sh).G r)=none:=λr B=>by rcases B with rfl|rfl<;>simp only[ZS.newT]<;>simp[h1,h2]
 refine⟨Z.newT M.trs.length t ba dx ar ru sh,rfl,rfl,rfl,rfl,rfl,rfl,⟨λr D o y e C g=>?_,λr o e=>?_,λj W e=>(h.seats j W e).kp im.kp,λj X e=>?_,h.tabsI im,h.came.im im⟩,λr B=>?_⟩
 ·rcases k r o e with⟨q,n⟩|⟨l,q,x,p⟩<;>rcases k D y C with⟨E,F⟩|⟨s,E,Y,u⟩
  ·rw[g,E]at q;have q:=m_ q;rcases n with rfl|rfl<;>rcases F with rfl|rfl<;>first|rfl|(exfalso;simp[cont]at e C;rw[<-e,<-C]at q;cases q)
  ·rw[s]at g;have:=h.at_ _ _ u;rw[<-g,gs r n]at this;cases this
  ·rw[l]at g;have:=h.at_ _ _ p;rw[g,gs D F]at this;cases this
  ·rw[l,s]at g;exact h.inj _ _ _ _ p u g
 ·rcases k r o e with⟨q,n⟩|⟨l,q,x,p⟩
  ·exact q
  ·rw[l];exact q
 ·rcases oT e with⟨rfl,rfl⟩|⟨n,q⟩
  ·show aW K H' (if M.trs.length=M.trs.length then ar else _) (arms.map V.str)/\ff K H' rule (if M.trs.length=M.trs.length then ru else _)/\aW K H' (if M.trs.length=M.trs.length then sh else _) (shuts.map V.str);rw[kw rfl,kw rfl,kw rfl];exact⟨im.kp.tq L,N.kp im.kp,im.kp.tq Q⟩
  ·show aW K H' (if j=M.trs.length then ar else Z.ar j) _/\ff K H' _ (if j=M.trs.length then ru else Z.ru j)/\aW K H' (if j=M.trs.length then sh else Z.sh j) _;rw[ku n,ku n,ku n];exact h.trsI im.kp j X q
 ·obtain⟨o,e⟩:=mY P w a (M:={M with trs:=M.trs++[⟨nm,home,arms,rule,shuts,false,false,[]⟩]}) (Z.newT M.trs.length t ba dx ar ru sh) (r:=r) (by simpa using B);rcases k r o e with⟨_,n⟩|⟨l,_,x,p⟩
  ·exact .inl (gs r n)
  ·exact .inr ⟨l,rH p⟩
end
def jI(M:cy)(Z:ZS)(b:Addr):Prop:=(∃r,xk M.las.length M.trs.length r/\b=Z.G r)\/(∃i,i<M.las.length/\∃x∈Z.tk i,x.2.2=.ref b)\/∃x∈Z.cv,x.2=.ref b
def fe.outs(n:∀x∈tk,∀l c,x.2.2=.ref l->H l=some (.lst c)->H' l=some (.lst c))(h:fe H tk m):fe H' tk m:=Paired.mapM h λx b _ q=>⟨q.1,q.2.1,q.2.2.imp λ_ q=>⟨q.1,n x b _ _ q.1 q.2⟩⟩
def eB.outs(e:Kp H H')(n:∀x∈cv,∀l c,x.2=.ref l->H l=some (.lst c)->H' l=some (.lst c))(h:eB K H dl cv cm):eB K H' dl cv cm:=Paired.mapM h λx b _ q=>⟨q.1,q.2.imp λ_ q=>q.imp λ_ q=>⟨q.1,q.2.1,n x b _ _ q.1 q.2.2.1,q.2.2.2.kp e⟩⟩
def bA.out(h:bA P w K a H M Z)(n:¬jI M Z o)(kp:Kp H H')(f:∀b ob,H b=some ob->b≠o->H' b=some ob):bA P w K a H' M Z:=⟨h.inj,λr ob e=>f _ _ (h.at_ r ob e) λz=>n (.inl ⟨r,rH e,z.symm⟩),λi l d=>(h.seats i l d).kp kp,h.trsI kp,λi l d=>let⟨h1,⟨m,h2,h3⟩,h4,h5⟩:=h.tabs i l d;⟨λx c=>dC kp (h1 x c),⟨m,h2.outs λx c l k g j=>f _ _ j λz=>n (.inr (.inl ⟨i,(d_.mp d).1,x,c,by rw[g,z]⟩)),h3⟩,h4.mono λ_ _ q=>dC kp q,h5⟩,h.came.outs kp λx c l k g j=>f _ _ j λz=>n (.inr (.inr ⟨x,c,by rw[g,z]⟩))⟩
def mx{a b:Addr}{o:HO}(h:aA H a o b=none):H b=none:=by
 by_cases e:b=a
 ·rw[e,ae]at h;cases h
 ·rw[ak e]at h;exact h
structure gu(H:Hp)(M:cy)(Z:ZS)(H':Hp)(M':cy)(Z':ZS):Prop where
 hh:Z'.G .hh=Z.G .hh
 fr:∀b o,H b=some o->¬jI M Z b->H' b=some o
 fp:∀b,jI M' Z' b->jI M Z b\/H b=none
 dm:∀b,H' b=none->H b=none
 dd:Z'.G .dl=Z.G .dl
section
variable{H d f j:Hp}{M M1 M2 c:cy}{Z p g a:ZS}
def gu.of(s:am H j):gu H M Z j M Z:=⟨rfl,λb o h _=>s b o h,λ_ h=>.inl h,λ_ h=>s.free h,rfl⟩
theorem gu.trans(s:gu H M Z d M1 p)(t:gu d M1 p f M2 g):gu H M Z f M2 g:=⟨t.hh.trans s.hh,λb o h n=>t.fr b o (s.fr b o h n) λq=>(s.fp b q).elim n λz=>(by rw[h]at z;cases z),λb q=>(t.fp b q).elim (s.fp b) λz=>.inr (s.dm b z),λb z=>s.dm b (t.dm b z),t.dd.trans s.dd⟩
def gu.put(t:xk M.las.length M.trs.length r)(s:a.G=Z.G)(h1:c.las.length=M.las.length)(h2:c.trs.length=M.trs.length)(h3:a.tk=Z.tk)(h4:∀x∈a.cv,x∈Z.cv\/∃l,x.2=.ref l/\(jI M Z l\/H l=none)):gu H M Z (aA H (Z.G r) o) c a:=⟨by rw[s],λb o h n=>(by rw[ak λz=>n (.inl ⟨r,t,z⟩)];exact h),λb q=>by
  rcases q with⟨m,h,e⟩|⟨i,hi,x,k,e⟩|⟨x,k,e⟩
  ·exact .inl (.inl ⟨m,by rw[<-h1,<-h2];exact h,by rw[e,s]⟩)
  ·exact .inl (.inr (.inl ⟨i,by rw[<-h1];exact hi,x,by rw[<-h3];exact k,e⟩))
  ·rcases h4 x k with q|⟨l,u,q⟩
   ·exact .inl (.inr (.inr ⟨x,q,e⟩))
   ·rw[u]at e;cases e;exact q,λb z=>mx z,by rw[s]⟩
end
def gu.out{o:Addr}{x:HO}{H c:Hp}{M M1:cy}{Z d:ZS}(s:gu H M Z c M1 d)(n:H o=none):gu H M Z (aA c o x) M1 d:=⟨s.hh,λb e h q=>(by rw[ak (aD h n)];exact s.fr b e h q),s.fp,λb z=>s.dm b (mx z),s.dd⟩
theorem fe.ex(h:fe H tk m)(x:iz)(c:x∈tk):∃l d,x.2.2=.ref l/\H l=some (.lst d):=(Paired.ex h x c).elim λ_ q=>q.2.2.imp λ_ q=>⟨_,q⟩
theorem eB.ex(h:eB K H dl cv cm)(x:cg×V)(c:x∈cv):∃l d,x.2=.ref l/\H l=some (.lst d):=(Paired.ex h x c).elim λ_ q=>q.2.imp λ_ q=>q.imp λ_ q=>⟨q.1,q.2.2.1⟩
def bA.foot(h:bA P w K a H M Z)(c:H b=none):¬jI M Z b:=λz=>by
 rcases z with⟨r,j,e⟩|⟨i,hi,x,d,e⟩|⟨x,d,e⟩
 ·obtain⟨o,q⟩:=mY P w a Z j;rw[e,h.at_ r o q]at c;cases c
 ·obtain⟨_,⟨m,q,_⟩,_⟩:=h.tabs i _ (h_ hi);obtain⟨l,k,f,g⟩:=q.ex x d;rw[f]at e;cases e;rw[g]at c;cases c
 ·obtain⟨l,k,f,g⟩:=h.came.ex x d;rw[f]at e;cases e;rw[g]at c;cases c
structure Jb(M:cy)(c:Nat)(l:cR):Prop where
 wd:Wd l.nm
 sl:0<=l.sl/\l.sl<=M.p
 ok:l.S.Ok M.p
 len:l.ins.length<=c
 gs:∀x∈l.ins,DX x.1
 nd:(l.ins.map (·.1)).Nodup
 own:∀k q,q∈l.S.pl k->k=aZ "" ""\/∃t∈M.trs,t.home=l.nm/\∃y∈t.arms,k=aZ t.nm y
structure Lc(M:cy)(t:eh):Prop where
 wd:Wd t.nm
 hm:t.home∈M.las.map cR.nm
 a1:1<=t.arms.length
 a4:t.arms.length<=4
 nd:t.arms.Nodup
 aw:∀x∈t.arms,Wd x
 hg:t.rule.hgt<=6
 s8:t.shuts.length<=8
structure nM(M:cy)(c:Nat):Prop where
 p:2<=M.p/\M.p<=997
 ln:(M.las.map cR.nm).Nodup
 tn:(M.trs.map eh.nm).Nodup
 la:∀l∈M.las,Jb M c l
 tr:∀t∈M.trs,Lc M t
 cm:∀x∈M.came,x.2.length<=10*c
 l4:M.las.length<=4
 tc:M.trs.length<=10
 cl:M.came.length<=10*c
 br:∀t∈M.trs,t.bar.length<=c
structure cE(P:Sb)(w:World)(K:R7)(a:iK)(H:Hp)(M:cy)(Z:ZS)(c:Nat):Prop where
 g:bA P w K a H M Z
 ok:nM M c
 tk:∀i,(Z.tk i).length<=10*c
 ow:∀i,(Z.ow i).length<=5000*c
 ds:Z.ds.length<=c
def Jb.mono(h:Jb M c l)(hc:c<=d):Jb M d l:={h with len:=n7 h.len hc}
theorem nM.mono(h:nM M c)(hc:c<=d):nM M d:={h with la:=λl b=>(h.la l b).mono hc,cm:=λx e=>n7 (h.cm x e) (QH _ hc),cl:=n7 h.cl (QH _ hc),br:=λt f=>n7 (h.br t f) hc}
theorem cE.mono(h:cE P w K a H M Z c)(hc:c<=d):cE P w K a H M Z d:=⟨h.g,h.ok.mono hc,λi=>n7 (h.tk i) (QH _ hc),λi=>n7 (h.ow i) (QH _ hc),n7 h.ds hc⟩
theorem cE.same(h:cE P w K a H M Z c)(e:am H H'):cE P w K a H' M Z c:={h with g:=h.g.same e}
section
variable{P:Sb}{w:World}{K:R7}{a:iK}{H d:Hp}{M:cy}{Z:ZS}{c:Nat}
def bA.house(h:bA P w K a H M Z):H (Z.G .hh)=some (.ins a.bj (Z.dx .hh) [("own_prime",.int M.p),("own_salt",.int M.salt),("layer_named",.ref (Z.G .ln)),("trial_named",.ref (Z.G .tn)),("came_into",.ref (Z.G .ci)),("deeds",.ref (Z.G .dl))]):=h.at_ .hh _ rfl
def bA.lays(h:bA P w K a H M Z):H (Z.G .ln)=some (.dK (jV (M.las.map cR.nm) λi=>.ref (Z.G (.lo i)))):=h.at_ .ln _ rfl
def bA.tris(h:bA P w K a H M Z):H (Z.G .tn)=some (.dK (jV (M.trs.map eh.nm) λi=>.ref (Z.G (.tr i)))):=h.at_ .tn _ rfl
def bA.cams(h:bA P w K a H M Z):H (Z.G .ci)=some (.dK Z.cv):=h.at_ .ci _ rfl
def bA.dees(h:bA P w K a H M Z):H (Z.G .dl)=some (.lst Z.ds):=h.at_ .dl _ rfl
def bA.layer(h:bA P w K a H M Z)(e:M.las[i]?=some l):H (Z.G (.lo i))=some (.ins a.eT (Z.dx (.lo i)) [("slope",.int l.sl),("table",.ref (Z.G (.tb i))),("inside",.ref (Z.G (.iu i)))]):=h.at_ (.lo i) _ (by simp only[cont,e];rfl)
def bA.inside(h:bA P w K a H M Z)(e:M.las[i]?=some l):H (Z.G (.iu i))=some (.dK (Z.iv i)):=h.at_ (.iu i) _ (by simp only[cont,e];rfl)
def bA.trial(h:bA P w K a H M Z)(e:M.trs[i]?=some t):H (Z.G (.tr i))=some (.ins a.fC (Z.dx (.tr i)) [("home",.str t.home),("arms",.ref (Z.ar i)),("rule",Z.ru i),("shuts",.ref (Z.sh i)),("paused",.bl t.pau),("closed",.bl t.clo),("barred",.ref (Z.G (.ba i)))]):=h.at_ (.tr i) _ (by simp only[cont,e];rfl)
def bA.barred(h:bA P w K a H M Z)(e:M.trs[i]?=some t):H (Z.G (.ba i))=some (.dK (t.bar.map λg=>(.inr g,.bl true))):=h.at_ (.ba i) _ (by simp only[cont,e];rfl)
def nM.lget(h:nM M c)(e:M.las[i]?=some l):bp (jV (M.las.map cR.nm) λi=>.ref (Z.G (.lo i))) (.inr l.nm)=some (.ref (Z.G (.lo i))):=tZ h.ln (by rw[j_,e];rfl)
def nM.tget(h:nM M c)(e:M.trs[i]?=some t):bp (jV (M.trs.map eh.nm) λi=>.ref (Z.G (.tr i))) (.inr t.nm)=some (.ref (Z.G (.tr i))):=tZ h.tn (by rw[j_,e];rfl)
theorem nM.home(h:nM M c)(f:t∈M.trs):∃(i:Nat)(l:cR),M.las[i]?=some l/\l.nm=t.home:=by obtain⟨l,b,e⟩:=nk.mp (h.tr t f).hm;obtain⟨i,hi⟩:=m3.mp b;exact⟨i,l,hi,e⟩
end
section
variable{K:R7}{H:Hp}
def ca.find(h:ca K H iv ins)(hn:(ins.map (·.1)).Nodup):∀x∈ins,∃s,bp iv (.inr x.1)=some (.ref s)/\aW K H s [.str x.2.1,.str x.2.2]:=by induction h with|nil=>exactλx b=>(nomatch b)|@cons _ y _ _ h _ c=>
  intro x b;obtain⟨h1,s,h2,h3⟩:=h;rw[oD,R4]at hn;rcases pw.mp b with rfl|b
  ·exact⟨s,by rw[cz h1,h2],h3⟩
  ·obtain⟨d,f,g⟩:=c hn.2 x b;refine⟨d,?_,g⟩;rw[bK,f];intro e;rw[h1]at e;exact hn.1 (by rw[show y.1=x.1 from sT e];exact nk.mpr ⟨x,b,rfl⟩)
theorem ca.none(h:ca K H iv ins)(hn:g∉ins.map (·.1)):bp iv (.inr g)=Option.none:=by induction h with|nil=>rfl|@cons _ y _ _ h _ b=>
  rw[oD]at hn;rw[bK]
  ·exact b λz=>hn (k4 _ z)
  ·intro e;rw[h.1]at e;exact hn (by rw[show y.1=g from sT e];exact mm)
def ca.drop(g:Str)(h:ca K H iv ins):ca K H (dD iv (.inr g)) (ins.filter λx=>decide (x.1≠g)):=by induction h with|nil=>exact .nil|@cons x y _ _ h _ b=>
  by_cases e:y.1=g
  ·rw[xP (by rw[h.1,e]),List.filter_cons_of_neg (by simp[e])];exact b
  ·rw[xQ (λz=>e (by rw[h.1]at z;exact sT z)),List.filter_cons_of_pos (by simp[e])];exact .cons h b
end
def dg(ins:List (Str×Str×Str))(gs:Sc):List (Str×Str×Str):=ins.filter λx=>decide (x.1∉gs)
def lL(ins:List (Str×Str×Str)):dg ins []=ins:=List.filter_eq_self.mpr λ_ _=>by simp
def sA(ins:List (Str×Str×Str))(gs:Sc)(g:Str):dg ins (gs++[g])=(dg ins gs).filter λx=>decide (x.1≠g):=by
 unfold dg;rw[List.filter_filter];refine List.filter_congr λx _=>?_
 by_cases h1:x.1∈gs<;>by_cases h2:x.1=g<;>simp[h1,h2]
def CY(h:g∈ins.map (·.1))(hn:g∉gs):∃x∈dg ins gs,x.1=g:=by obtain⟨x,b,rfl⟩:=nk.mp h;exact⟨x,zz.mpr ⟨b,by simpa using hn⟩,rfl⟩
def xI(h:(ins.map (·.1)).Nodup):((dg ins gs).map (·.1)).Nodup:=(List.Sublist.map _ List.filter_sublist).nodup h
abbrev cy.setL(M:cy)(i:Nat)(l:cR):cy:={M with las:=M.las.set i l}
def mP{M:cy}{i:Nat}{l:cR}(c:M.las[i]?=some l):M.setL i l=M:=by
 have e:M.las.set i l=M.las:=y2 λj=>by
  rw[QU]
  split
  ·rename_i q;subst q;rw[kw (d_.mp c).1,c]
  ·rfl
 unfold cy.setL;rw[e]
def uw{M:cy}{i:Nat}{l c:cR}:(M.setL i l).setL i c=M.setL i c:=by unfold cy.setL;rw[List.set_set]
def ux{M:cy}{i:Nat}{l l':cR}(c:M.las[i]?=some l):(M.setL i l').las[i]?=some l':=by show(M.las.set i l')[i]?=_;rw[G_ (d_.mp c).1]
theorem nM.setL{M:cy}{c d:Nat}(h:nM M c){i:Nat}{l e:cR}(g:M.las[i]?=some l)(h1:e.nm=l.nm)(hc:c<=d)(ok:Jb M d e):nM (M.setL i e) d:=by
 have b:(M.las.set i e).map cR.nm=M.las.map cR.nm:=eg g cR.nm h1;have h:=h.mono hc;refine{h with ln:=by rw[b];exact h.ln,la:=λx j=>?_,tr:=λt f=>{h.tr t f with hm:=by show t.home∈(M.las.set i e).map cR.nm;rw[b];exact(h.tr t f).hm},l4:=by show(M.las.set i e).length<=4;rw[u_];exact h.l4};rcases QR j with q|rfl
 ·exact{h.la x q with}
 ·exact{ok with}
inductive Oc(P:Sb)(w:World)(K:R7)(a:iK)(vs:List V)(H:Hp)(Q:VK)(_E:XK):Prop|mk(M:cy)(Z:ZS)(c i:Nat)(l:cR)(g:Addr)(gs:Sc)(_:vs=[.ref (Z.G .hh),.ref (Z.G (.lo i)),.ref g])(_:cE P w K a H M Z c)(_:M.las[i]?=some l)(_:H g=some (.lst (gs.map V.str)))(_:(∀x∈gs,x∈l.ins.map (·.1)))(_:gs.Nodup)(_:gs.length<=63)(_:∀(r:Addr)(us:List V)(Z':ZS)(H':Hp),gu H M Z H' (M.setL i {l with ins:=dg l.ins gs}) Z'->cE P w K a H' (M.setL i {l with ins:=dg l.ins gs}) Z' c->H r=none->H' r=some (.lst us)->Z'.ds=Z.ds->Q (.ref r) H')
section
def kO(T:Txt K mg a):aO P w K mg base dk 1 a.cx.x a.cx.d ["self","layer","guests"] (Oc P w K a):=by
 refine T.cx.ok eW λbt A outer s H vs Q E hr h=>?_
 ·obtain⟨M,Z,c,i,l,g,gs,rfl,hZ,hl,hg,a7,a8,bl,q⟩:=h;refine⟨_,(ag (bg 3 eW.nd (bn O)) (ag (dy o_ rfl (d8 K rfl (Y 2)) (qK 4 eW.nd) (ag (bg 5 eW.nd (Av (aG K rfl (Y 1)) (Y 4) ⟨rfl,rfl,rfl,rfl⟩)) (ah (aR (jk K rfl PySem.F.plainAttrs_list PySem.F.slot_list_append PySem.F.type_list_append eZ (Y 3) (ac (av (AA K rfl) (bO (ac (Y 4) O)) (Y 5)) O)))))) (ah (ax (ay (De K rfl) (by rfl) T.AR L2.sG (ac (Y 3) O)))))),?_⟩
  refine⟨ls rfl,λo ho=>aq ?_⟩;have s1:=aj (o:=.lst []) (am.refl H) ho;have ap:aA H o (.lst []) o=some (.lst []):=ae;generalize aA H o (.lst [])=H1 at s1 ap⊢;have hL:=hZ.ok.la l (i_ hl);have ba:¬jI M Z o:=hZ.g.foot ho;have bb:(gs.map V.str).length=gs.length:=c_ ..;refine U rfl ⟨g,rfl,⟨_,aX.of (s1 _ _ hg)⟩,?_⟩;refine gn (xs:=gs.map V.str) (λk σ H'=>Li λR C=>P7 (bA P w K a H' (M.setL i {l with ins:=dg l.ins (gs.take k)}) R) (R.G=Z.G) (R.tk=Z.tk) (R.ow=Z.ow) (R.ds=Z.ds) (R.cv=Z.cv) (¬jI (M.setL i {l with ins:=dg l.ins (gs.take k)}) R o) (gu H M Z H' (M.setL i {l with ins:=dg l.ins (gs.take k)}) R) (H' g=some (.lst (gs.map V.str))) (H' o=some (.lst (C.map V.ref))) (C.length=k) ((∀u∈C,∃x y z,aW K H' u [.str x,.str y,.str z])) (Li λv4 v5=>σ=[some (.ref (Z.G .hh)),some (.ref (Z.G (.lo i))),some (.ref g),some (.ref o),v4,v5])) ⟨Z,[],by rw[P9,lL];exact(mP hl).symm▸hZ.g.same s1,rfl,rfl,rfl,rfl,rfl,by rw[P9,lL];exact(mP hl).symm▸ba,by rw[P9,lL];exact(mP hl).symm▸gu.of s1,s1 _ _ hg,ap,rfl,λu hu=>(nomatch hu),_,_,rfl⟩ (λk σ H' _ h=>by obtain⟨_,_,_,_,_,_,_,_,_,_,h,_⟩:=h;exact aX.of h) ?_ ?_
  ·rintro k v σ H2 hv⟨f,C,m,eG,aa,ad,D,as,S,p,al,B,I,t,v4,v5,rfl⟩;rw[j_]at hv;obtain⟨x,W,rfl⟩:=Option.map_eq_some_iff.mp hv;have hk:k<gs.length:=(d_.mp W).1;have X:=dI W;have bc:x∉gs.take k:=λz=>by have:=a8;rw[<-vu k gs,rr]at this;exact this.2.2 x z x (i_ (by rw[RA,RI];exact W)) rfl
   have bi:¬jI (M.setL i {l with ins:=dg l.ins (gs.take k)}) f o:=λz=>(S z);obtain⟨y,hy,ey⟩:=CY (a7 x (i_ W)) bc;have n:=ux (l':={l with ins:=dg l.ins (gs.take k)}) hl;have a0:=m.seats i _ n;obtain⟨s,a2,J⟩:=a0.find (xI hL.nd) y hy;rw[ey]at a2;refine aq (ip (by rw[<-eG];exact m.layer n) T.bJ T.cj rfl rfl ⟨f.G (.iu i),rfl,.inl ⟨_,.inl (m.inside n)⟩,U rfl ⟨_,.inr x,_,m.inside n,rfl,a2,aq ?_⟩⟩);have L:=m.setIns n (a0.drop x);have im:=m.imm (r:=.iu i) (by simp only[cont,n];rfl) (cA (o':=.dK (dD (f.iv i) (.inr x))));have N:gu H2 _ f (aA H2 (f.G (.iu i)) (.dK (dD (f.iv i) (.inr x)))) ((M.setL i {l with ins:=dg l.ins (gs.take k)}).setL i {l with ins:=(dg l.ins (gs.take k)).filter λz=>decide (z.1≠x)}) {f with iv:=λj=>if j=i then dD (f.iv i) (.inr x)else f.iv j}:=gu.put (show i<_ from(d_.mp n).1) rfl (u_ ..) rfl rfl λx W=>.inl W;have a3:=cA (x:=f.G (.iu i)) (o':=.dK (dD (f.iv i) (.inr x))) _ _ al λz=>by have e:=m.inside n;rw[<-z,al]at e;cases e
   have an:=cA (x:=f.G (.iu i)) (o':=.dK (dD (f.iv i) (.inr x))) _ _ B λz=>by have e:=m.inside n;rw[<-z,B]at e;cases e
   rw[uw,<-sA,<-X]at N;have L:bA P w K a (aA H2 (f.G (.iu i)) (.dK (dD (f.iv i) (.inr x)))) (M.setL i {l with ins:=dg l.ins (gs.take (k+1))}) {f with iv:=λj=>if j=i then dD (f.iv i) (.inr x)else f.iv j}:=by rw[X,sA,<-uw (l:={l with ins:=dg l.ins (gs.take k)})];exact L
   have J:=im.kp.tq J;have t:∀u∈C,∃x1 y1 z1,aW K (aA H2 (f.G (.iu i)) (.dK (dD (f.iv i) (.inr x)))) u [.str x1,.str y1,.str z1]:=λu hu=>let⟨x1,y1,z1,h⟩:=t u hu;⟨x1,y1,z1,im.kp.tq h⟩;generalize aA H2 (f.G (.iu i)) (.dK (dD (f.iv i) (.inr x)))=H3 at L N a3 an J t⊢;refine U rfl ⟨.inl ⟨rfl,_,aX.of an⟩,U rfl ⟨ls rfl,λT1 a5=>(U rfl ⟨T1,s,[.str x],U rfl ⟨rfl,aW.of ae,am.tseq (aj (am.refl _) a5) J,by simp,by rw[lm];simp,λz=>(nomatch z),λ_ T2 bj=>?_⟩⟩)⟩⟩;have s5:=aj (o:=.tup ([.str x]++[.str y.2.1,.str y.2.2])) (aj (o:=.tup [.str x]) (am.refl H3) a5) bj;have e5:aA (aA H3 T1 (.tup [.str x])) T2 (.tup ([.str x]++[.str y.2.1,.str y.2.2])) T2=some (.tup [.str x,.str y.2.1,.str y.2.2]):=ae;generalize aA (aA H3 T1 (.tup [.str x])) T2 (.tup ([.str x]++[.str y.2.1,.str y.2.2]))=H5 at s5 e5⊢;have a6:=s5 _ _ an;refine rA a6 (by rw[c_,I,lm];lia) ?_;have kp:Kp H5 (aA H5 o (.lst (C.map V.ref++[.ref T2]))):=.lst a6;have nF:¬jI (M.setL i {l with ins:=dg l.ins (gs.take (k+1))}) {f with iv:=λj=>if j=i then dD (f.iv i) (.inr x)else f.iv j} o:=λz=>by
    rcases N.fp o z with q|q
    ·exact bi q
    ·rw[B]at q;cases q
   have kq:∀b ob,H5 b=some ob->b≠o->aA H5 o (.lst (C.map V.ref++[.ref T2])) b=some ob:=cA;refine⟨{f with iv:=λj=>if j=i then dD (f.iv i) (.inr x)else f.iv j},C++[T2],(L.same s5).out nF kp kq,eG,aa,ad,D,as,nF,((p.trans N).trans (gu.of s5)).out ho,?_,?_,by rw[kt,I];rfl,λu hu=>?_,_,_,rfl⟩
   ·exact kq _ _ (s5 _ _ a3) λz=>by rw[z,ho]at hg;cases hg
   ·rw[ae,k_];rfl
   ·rcases List.mem_append.mp hu with z|z
    ·obtain⟨x1,y1,z1,h⟩:=t u z;exact⟨x1,y1,z1,kp.tq (am.tseq s5 h)⟩
    ·rw[List.mem_singleton.mp z];exact⟨_,_,_,kp.tq (aW.of e5)⟩
  ·rintro σ H2⟨f,C,m,eG,aa,ad,D,as,S,p,al,B,I,t,v4,v5,rfl⟩;rw[bb]at I m p;rw[mu (f_ _)]at m p;refine U rfl ⟨o,C,rfl,aX.of B,by lia,t,λr vs hr hp=>?_⟩;have s6:=aj (o:=.lst (vs.map V.ref)) (am.refl H2) hr;refine q r (vs.map V.ref) f _ (p.trans (gu.of s6)) ⟨m.same s6,?_,λj=>by rw[aa];exact hZ.tk j,λj=>by rw[ad];exact hZ.ow j,by rw[D];exact hZ.ds⟩ (p.dm _ hr) ae D;refine hZ.ok.setL hl rfl (f_ _) {hL with len:=n7 (v1 _ _) hL.len,gs:=λx W=>hL.gs x (zz.mp W).1,nd:=xI hL.nd}
end
def Nj.kp(e:Kp H H')(h:Nj K H c W):Nj K H' c W:=Paired.mapP h λ_ _ q=>q.imp λ_ q=>q.imp λ_ q=>⟨q.1,e.tq q.2.1,dC e q.2.2⟩
def r9(x:Str)(arms:Sc)(l:Sh):Wl:=(arms.zip l).map λp=>(aZ x p.1,p.2)
def Jj(h:l.length=arms.length):(r9 x arms l).length=arms.length:=by unfold r9;rw[c_,List.length_zip,h,Nat.min_self]
def LP{x:Str}{arms:Sc}{l:Sh}{i:Nat}{y:Str}{z:Int}(h1:arms[i]?=some y)(h2:l[i]?=some z):(r9 x arms l)[i]?=some (aZ x y,z):=by unfold r9;rw[j_,List.getElem?_zip_eq_some (z:=(y,z))|>.mpr ⟨h1,h2⟩];rfl
theorem ud:∀{arms:Sc}{l:Sh},l.length=arms.length->(r9 x arms l).map (·.1)=arms.map (aZ x)|[],_,_=>rfl|y::r,[],h=>nomatch h|y::r,z::l,h=>by show aZ x y::(r9 x r l).map (·.1)=aZ x y::r.map (aZ x);rw[ud (by simpa using h)]
def Dn(h:aZ x y=aZ z u):x=z/\y=u:=by have h:=sT h;rw[List.cons.injEq,List.cons.injEq]at h;exact⟨sT h.1,sT h.2.1⟩
def LO(h:l.length=arms.length)(hn:arms.Nodup):((r9 x arms l).map (·.1)).Nodup:=by rw[ud h,P_,List.pairwise_map];exact(P_.mp hn).imp λh e=>h (Dn e).2
def LN(h:∀i∈l,0<=i):∀y∈r9 x arms l,0<=y.2:=λy b=>by obtain⟨p,c,rfl⟩:=nk.mp b;exact h _ (QE c).2
def HX{S:AS}{j k:bS}{n:Nat}{q:Int}(h:q∈(S.give j n).pl k):q∈S.pl k:=by
 have h:q∈(if k=j then(S.pl j).take n else S.pl k):=h
 split at h
 ·rename_i e;rw[e];exact QC h
 ·exact h
theorem mG:∀{W:Wl}{S:AS}{k:bS}{q:Int},q∈(cI S W).pl k->q∈S.pl k|[],_,_,_,h=>h|x::r,_,_,_,h=>HX (mG (W:=r) h)
theorem l6:∀{W:Wl}{S:AS}{k:bS}{q:Int},q∈(cZ n S W).pl k->q∈S.pl k\/k∈W.map (·.1)
 |[],_,_,_,h=>.inl h|x::r,S,k,q,h=>by
  rcases l6 (W:=r) h with h|h
  ·have h:q∈(if k=x.1 then S.pl x.1++_ else S.pl k):=h
   split at h
   ·rename_i e;exact .inr (by rw[oD,e];exact mm)
   ·exact .inl h
  ·exact .inr (k4 _ h)
section
variable{P:Sb}{w:World}{K:R7}{a:iK}{H d:Hp}{M:cy}{Z:ZS}{c:Nat}
theorem cE.told(h:cE P w K a H M Z c)(A:M.las[i]?=some l)(o:mJ (Z.G (.od i)) (Z.G (.td i)) H d)(C:eI P w K a.bN d (Z.G (.tb i)) (Z.G (.od i)) (Z.G (.td i)) M.p f s L)(N:jH M.p v f L)(Q:wf (cN K H) M.p v f)(I:fj H (Z.tk i) s)(b1:s.length<=(Z.tk i).length+10)(b2:f.length<=(Z.ow i).length+5000)(hok:v.Ok M.p)(own:∀k q,q∈v.pl k->(∃D,D∈l.S.pl k)\/k=aZ "" ""\/∃t∈M.trs,t.home=l.nm/\∃y∈t.arms,k=aZ t.nm y):∃B,cE P w K a d (M.setL i {l with S:=v}) B (c+1)/\gu H M Z d (M.setL i {l with S:=v}) B/\B.ds=Z.ds/\B.G=Z.G:=by
 have J:=h.ok.la l (i_ A);obtain⟨m,U,_⟩:=h.g.tab A;have len:(M.setL i {l with S:=v}).las.length=M.las.length:=u_ ..;refine⟨_,⟨h.g.told A o C N Q I,h.ok.setL A rfl (r3 c) {J.mono (r3 c)with ok:=hok,own:=λk q O=>?_},λj=>?_,λj=>?_,sg h.ds⟩,⟨rfl,λb ob e n=>?_,λb q=>?_,λb z=>pD o (by rw[C.own];simp) (by rw[C.tak];simp) z,rfl⟩,rfl,rfl⟩
 ·rcases own k q O with⟨D,h1⟩|h1
  ·exact J.own k D h1
  ·exact h1
 ·show(if j=i then s else Z.tk j).length<=_;have:=h.tk j
  split
  ·rename_i e;subst e;lia
  ·lia
 ·show(if j=i then f else Z.ow j).length<=_;have:=h.ow j
  split
  ·rename_i e;subst e;lia
  ·lia
 ·have hi:=(d_.mp A).1;exact o b ob e (λz=>n (.inl ⟨.od i,hi,z⟩)) (λz=>n (.inl ⟨.td i,hi,z⟩))
 ·rcases q with⟨r,R,e⟩|⟨j,E,x,u,e⟩|⟨x,u,e⟩
  ·exact .inl (.inl ⟨r,by rw[<-len];exact R,e⟩)
  ·rw[len]at E
   replace u:x∈(if j=i then s else Z.tk j):=u
   by_cases q:j=i
   ·rw[kw q]at u;subst q;rcases I x u with⟨y,T,F⟩|⟨V,F,hn⟩
    ·exact .inl (.inr (.inl ⟨j,E,y,T,by rw[F,e]⟩))
    ·rw[F]at e;cases e;exact .inr hn
   ·rw[ku q]at u;exact .inl (.inr (.inl ⟨j,E,x,u,e⟩))
  ·exact .inl (.inr (.inr ⟨x,u,e⟩))
end
def ca.get(h:ca K H iv ins)(k:Nat)(x:cg×V)(e:iv[k]?=some x):∃y,ins[k]?=some y/\x.1=.inr y.1:=(Paired.at_ h k x e).imp λ_ q=>⟨q.1,q.2.1⟩
def ca.len(h:ca K H iv ins):iv.length=ins.length:=Paired.length h
def DL{z:Int}{l:Sh}:nj (.int z) (l.map V.int)=decide (z∈l):=by
 by_cases h:z∈l
 ·rw[nn h];unfold nj;rw[Q9];exact⟨.int z,nk.mpr ⟨z,h,rfl⟩,by show(z==z)=true;exact t0 z⟩
 ·rw[no h];unfold nj;rw[List.any_eq_false];intro v b e;obtain⟨y,c,rfl⟩:=nk.mp b;have e:(y==z)=true:=e;exact h (by rw[<-eq_of_beq e];exact c)
theorem oI:∀l:List Int,(l.map V.int).all nI=true|[]=>rfl|w::r=>by rw[oD,Qz,oI r];rfl
def MX(M:cy)(l:cR)(c:Sh):List Str:=(l.ins.map (·.1)).filter λg=>decide (wA M.p M.salt l.sl g∈c)
def uu(M:cy)(l:cR)(t:eh)(ns:Sh):AS:=cZ M.p (cI l.S (r9 t.nm t.arms ns)) (r9 t.nm t.arms ns)
def n6(M:cy)(i:Nat)(l:cR)(t:eh)(ns:Sh):cy:=M.setL i {l with S:=uu M l t ns,ins:=dg l.ins (MX M l (dq l.S (r9 t.nm t.arms ns)))}
inductive Jw(P:Sb)(w:World)(K:R7)(a:iK)(vs:List V)(H:Hp)(Q:VK)(E:XK):Prop|mk(M:cy)(Z:ZS)(c i j:Nat)(l:cR)(t:eh)(nv:Addr)(ns:Sh)(_:vs=[.ref (Z.G .hh),.str t.nm,.ref nv])(_:cE P w K a H M Z c)(_:c<=63)(_:M.trs[j]?=some t)(_:M.las[i]?=some l)(_:l.nm=t.home)(_:(aX K H nv (ns.map V.int)\/aW K H nv (ns.map V.int)))(_:ns.length=t.arms.length)(_:(∀x∈ns,0<=x))(_:(jW l.S (r9 t.nm t.arms ns)<=((pN M.p l.S.oc).length:Int)->∀(r:Addr)(us:List V)(Z':ZS)(H':Hp),gu H M Z H' (n6 M i l t ns) Z'->cE P w K a H' (n6 M i l t ns) Z' (c+1)->H r=none->H' r=some (.lst us)->Z'.ds=Z.ds->Q (.ref r) H'))(_:(((pN M.p l.S.oc).length:Int)<jW l.S (r9 t.nm t.arms ns)->∀H',am H H'->E (.ref a.oP) none H'))
section
def gh(T:Txt K mg a):aO P w K mg base (sN P w) 4 a.bC.x a.bC.d ["self","name","numbers"] (Jw P w K a):=by
 refine T.bC.okE c6 λec A outer s H vs Q E hr h=>?_
 ·obtain⟨M,Z,c,i,j,l,t,nv,ns,rfl,u,hc,hj,hl,hh,ci,ad,cF,q,qe⟩:=h;refine⟨_,(ag (bg 3 c6.nd (dL (ck hr) (aG K rfl (Y 0)) (Y 1) (λ_ _=>rfl))) (ag (yF (i:=4) c6.nd rfl (.inr rfl) (dL (ck hr) (aG K rfl (Y 0)) (aG K rfl (Y 3)) (λ_ _=>rfl))) (ag (yF (i:=5) c6.nd rfl (.inr rfl) (bo (aG K rfl (Y 4)) T.bf T.dS.m ((nC (P:=P) (w:=w) T).mono (by decide)) hr T.dS.b .nil eE (ac (wc cQ ["arm","number"] [] [7,8] (ai dw) (C0 _ 7 8) (J7 K rfl rfl T.Ow (ac (aG K rfl (Y 3)) (ac (Y 2) O))) (λcl C s₀ H₀ ex=>⟨(ij K rfl rfl (bL (qL cQ ["arm","number"] 7) (bL (qL cQ ["arm","number"] 8) ii))),cr,(bO (ac (bO (ac (Y 1) (ac (Y 7) O))) (ac (Y 8) O)))⟩)) O))) (ag (GP (P:=P) (w:=w) (OZ 6 cQ ["guest"] [] [7] (ai dw) (cw 7) (Ka (P:=P) (w:=w) (aG K rfl (Y 4))) (λcl C s₀ H₀ ex=>⟨(qL cQ ["guest"] 7),(yE (aE (qN K rfl) (bo (Y 0) T.az T.cb.m ((jT (P:=P) (w:=w) T).mono (by decide)) hr T.cb.b .nil bh (ac (Y 4) (ac (Y 7) O))) (Y 5) (by with_unfolding_all rfl))),(Y 7)⟩) c6.nd)) (ah (ax (bo (Y 0) T.az T.cx.m ((kO (P:=P) (w:=w) T).mono (by decide)) hr T.cx.b .nil bh (ac (Y 4) (ac (Y 6) O))))))))),?_⟩
  have a8:=i_ hj;have hT:=u.ok.tr t a8;have hL:=u.ok.la l (i_ hl);have hI:=u.g.house;have ba:=u.g.trial hj;obtain⟨bb,-,-⟩:=u.g.trs j t hj;have bc:=u.ok.lget (Z:=Z) hl;rw[hh]at bc;refine ip hI T.az T.aP rfl rfl (U rfl (rG (.ref (Z.G (.tr j))) (by rw[<-u.ok.tget (Z:=Z) hj];exact dG.k (k:=.inr t.nm) u.g.tris) (aq ?_)));refine ip hI T.az T.aN rfl rfl (ip ba T.bd T.ik rfl rfl (rG (.ref (Z.G (.lo i))) (by rw[<-bc];exact dG.k (k:=.inr t.home) u.g.lays) (aq ?_)));obtain⟨m,bi,ed⟩:=u.g.tab hl;obtain⟨ef,c0⟩:=bi.ins;refine ip (u.g.layer hl) T.bJ T.dB rfl rfl (rM c0 rfl ?_);refine ip ba T.bd T.fA rfl rfl (U rfl ⟨Z.ar j,nv,t.arms.map V.str,ns.map V.int,rfl,bb,?_⟩);have c1:(r9 t.nm t.arms ns).length=t.arms.length:=Jj ad;have ei:=hT.a4;refine Fp (K:=K) (a:=Z.ar j) (l:=nv) (xs:=t.arms.map V.str) (ys:=ns.map V.int) (λD k f H'=>am H H'/\H' D=some (.lst f)/\Nj K H' f ((r9 t.nm t.arms ns).take k)) ci (λD hD=>⟨aj (am.refl _) hD,ae,.nil⟩) (by rw[c_,c_,ad]) (λD k f H' h=>⟨am.tseq h.1 bb,h.1⟩) ?_ ?_
  ·rintro D k x1 x2 f H2 T1 hD a3 bj⟨s2,a5,L⟩c2;have hi:k<(t.arms.map V.str).length:=(d_.mp a3).1;rw[j_]at a3 bj;obtain⟨ya,c3,rfl⟩:=Option.map_eq_some_iff.mp a3;obtain⟨z2,c4,rfl⟩:=Option.map_eq_some_iff.mp bj;have s3:=aj (o:=.tup [V.str ya,V.int z2]) (am.refl H2) c2;have an:aA H2 T1 (.tup [V.str ya,V.int z2]) T1=some (.tup [V.str ya,V.int z2]):=ae;generalize aA H2 T1 (.tup [V.str ya,V.int z2])=J at s3 an⊢;refine⟨T1,U rfl ⟨aW.of an,rfl,_,U rfl (aq ⟨_,U rfl (aq ⟨rfl,j3 (bD ?_)⟩)⟩)⟩⟩;refine U rfl (U rfl ⟨ls rfl,λB da=>(U rfl ⟨ls rfl,λT5 bl=>?_⟩)⟩);have s5:=aj (o:=.tup [.ref B,.int z2]) (aj (o:=.tup [.str t.nm,.str ya]) s3 da) bl;have e5:aA (aA J B (.tup [.str t.nm,.str ya])) T5 (.tup [.ref B,.int z2]) T5=some (.tup [.ref B,.int z2]):=ae;have e4:aA (aA J B (.tup [.str t.nm,.str ya])) T5 (.tup [.ref B,.int z2]) B=some (.tup [.str t.nm,.str ya]):=by rw[ak (aD ae bl)];exact ae
   have ej:f.length<=4:=by have:=Paired.length L;rw[oe]at this;lia
   show aA (aA J B (.tup [.str t.nm,.str ya])) T5 (.tup [.ref B,.int z2]) D=some (.lst f)/\_;generalize aA (aA J B (.tup [.str t.nm,.str ya])) T5 (.tup [.ref B,.int z2])=H5 at s5 e4 e5⊢;have N:=s5 _ _ a5;have kp:Kp H5 (aA H5 D (.lst (f++[.ref T5]))):=.lst N;refine⟨N,by rw[lm];lia,lf hi ⟨bR (s2.trans s5) hD,ae,?_⟩⟩;rw[dI (LP c3 c4)];exact Paired.snoc ((L.kp (.of s5)).kp kp) ⟨T5,.ref B,rfl,kp.tq (aW.of e5),B,rfl,kp.tq (aW.of e4)⟩
  ·rintro D f H2 hD⟨s2,a5,L⟩;rw[c_,mu (by exact Qo c1)]at L;have a6:=u.same s2;obtain⟨m2,a7,bt⟩:=a6.g.tab hl;have ek:=u.tk i;have el:=u.ow i;have hp:=u.ok.p;refine⟨Z.G (.tb i),Z.G (.od i),Z.G (.td i),D,M.p,Z.ow i,Z.tk i,m2,l.S,r9 t.nm t.arms ns,f,rfl,a7,bt,(a6.g.tabs i l hl).2.2.1,hL.ok,a5,L,LN cF,LO ad hT.nd,by lia,by lia,by lia,by lia,λdc lb en eo m' J off an di dt eq R nw nl b1 b2=>aq ?_,λdv J s3=>qe dv J (s2.trans s3)⟩;obtain⟨Z3,v,dT,dV,eG⟩:=a6.told hl off an di dt nw b1 b2 (ld _ (jo _ hL.ok)) λk x hx=>by
    rcases l6 hx with h|h
    ·exact .inl ⟨x,mG h⟩
    ·rw[ud ad]at h;obtain⟨y,hy,rfl⟩:=nk.mp h;exact .inr (.inr ⟨t,a8,hh.symm,y,hy,rfl⟩)
   have ap:=ux (l':={l with S:=uu M l t ns}) hl;have v:cE P w K a J (M.setL i {l with S:=uu M l t ns}) Z3 (c+1):=v;have bv:=v.g.seats i _ ap;have W:=v.g.layer ap;have F:=v.g.house;have I:=v.g.inside ap;rw[eG]at F W I;refine ip W T.bJ T.cj rfl rfl ⟨Z.G (.iu i),U rfl ⟨I,λep=>λDg as=>?_⟩⟩;have nd:Z.G (.iu i)≠Dg:=λz=>by rw[<-z,ae]at as;cases as
   have a2:J Dg=none:=by rw[ak (pv nd)]at as;exact as
   have d1:(l.ins.map (·.1)).length=(Z3.iv i).length:=by rw[c_];exact bv.len.symm
   have er:=hL.len;refine zx (n:=(Z3.iv i).length) (λk f H2=>(∀b o,J b=some o->b≠Z.G (.iu i)->H2 b=some o)/\H2 (Z.G (.iu i))=some (dE P w (Z.G (.iu i)) (Z3.iv i) ep)/\H2 Dg=some (.lst f)/\f=(((l.ins.map (·.1)).take k).filter λg=>decide (wA M.p M.salt l.sl g∈dq l.S (r9 t.nm t.arms ns))).map V.str) ⟨λb o e n=>by rw[ak (aD e a2),ak n];exact e,by rw[ak nd,ae],ae,rfl⟩ (λk f H2 hk h=>⟨h.2.1,hk⟩) ?_ ?_
   ·rintro k f H4 x H5 hk⟨f4,X,aa,rfl⟩⟨rfl,hx⟩;obtain⟨p0,d2,rfl⟩:=Option.map_eq_some_iff.mp hx;obtain⟨y,hy,ey⟩:=bv.get k p0 d2;have d3:=hL.gs y (i_ hy);rw[ey];have bz:Z.G .hh≠Z.G (.iu i):=λz=>by rw[z,I]at F;cases F
    have d4:Z.G (.lo i)≠Z.G (.iu i):=λz=>by rw[z,I]at W;cases W
    have d5:lb≠Z.G (.iu i):=λz=>by rw[z,I]at R;cases R
    have ea:=hL.sl;refine aq (nh (f4 _ _ F bz) rfl rfl (U rfl (U rfl ⟨Z.G .hh,Z.G (.lo i),_,_,_,_,M.p,M.salt,l.sl,y.1,rfl,f4 _ _ F bz,rfl,rfl,f4 _ _ W d4,rfl,d3,⟨by lia,by lia⟩,⟨by exact ea.1,by lia⟩,λH6 s6=>?_⟩)));refine U rfl ⟨lb,U rfl ⟨.inl (aX.of (s6 _ _ (f4 _ _ R d5))),rfl,oI _,U rfl ?_⟩⟩;have bN:(l.ins.map (·.1)).take (k+1)=(l.ins.map (·.1)).take k++[y.1]:=dI (by rw[j_,hy];rfl);have al:((((l.ins.map (·.1)).take k).filter λg=>decide (wA M.p M.salt l.sl g∈dq l.S (r9 t.nm t.arms ns))).map V.str).length<=63:=by rw[c_];refine n7 (v1 _ _) ?_;rw[oe,c_];lia
    show if(if false=true then _ else nj (.int (wA M.p M.salt l.sl y.1)) _)=true then _ else _
    rw[ku mo,DL];have f6:∀b o,J b=some o->b≠Z.G (.iu i)->H6 b=some o:=λb o e n=>s6 _ _ (f4 b o e n)
    by_cases a0:wA M.p M.salt l.sl y.1∈dq l.S (r9 t.nm t.arms ns)
    ·rw[nn a0];refine bD (U rfl ⟨s6 _ _ aa,by rw[lm];lia,lf hk ⟨λb o e n=>by rw[ak (aD e a2)];exact f6 b o e n,by rw[ak nd];exact s6 _ _ X,ae,?_⟩⟩);rw[bN,RB,k_,List.filter_cons_of_pos (by simpa using a0)];rfl
    ·rw[no a0];refine bV (lf hk ⟨f6,s6 _ _ X,by rw[s6 _ _ aa],?_⟩);rw[bN,RB,k_,List.filter_cons_of_neg (by simpa using a0)];exact(B_ _).symm
   ·rintro f H4⟨f4,X,aa,rfl⟩;refine⟨⟨X,f_ _⟩,aq ⟨Z.G (.iu i),_,ep,X,?_⟩⟩;rw[mu (by exact Qo d1)]at aa;have s4:am J (aA H4 (Z.G (.iu i)) (.dK (Z3.iv i))):=λb o e=>by
     by_cases z:b=Z.G (.iu i)
     ·rw[z,I]at e;rw[z,ae];exact e
     ·rw[ak z];exact f4 b o e z
    have N:aA H4 (Z.G (.iu i)) (.dK (Z3.iv i)) Dg=some (.lst ((MX M l (dq l.S (r9 t.nm t.arms ns))).map V.str)):=by rw[ak (pv nd)];exact aa
    generalize aA H4 (Z.G (.iu i)) (.dK (Z3.iv i))=H5 at s4 N⊢;refine nh (s4 _ _ F) rfl rfl (U rfl (U rfl ⟨M.setL i {l with S:=uu M l t ns},Z3,c+1,i,_,Dg,MX M l (dq l.S (r9 t.nm t.arms ns)),by rw[eG];rfl,v.same s4,ap,N,λx hx=>(zz.mp hx).1,List.filter_sublist.nodup hL.nd,?_,λr us Z6 H6 b0 b8 hr eb b9=>?_⟩))
    ·refine n7 (v1 _ _) ?_;rw[c_];lia
    ·rw[uw]at b0 b8;have cc:gu H M Z H5 (M.setL i {l with S:=uu M l t ns}) Z3:=((gu.of s2).trans dT).trans (gu.of s4);exact q dc r us Z6 H6 (cc.trans b0) b8 (cc.dm _ hr) eb (b9.trans dV)
end
abbrev cy.setT(M:cy)(j:Nat)(t:eh):cy:={M with trs:=M.trs.set j t}
def kF{M:cy}{i:Nat}{t t':eh}(c:M.trs[i]?=some t):(M.setT i t').trs[i]?=some t':=by show(M.trs.set i t')[i]?=_;rw[G_ (d_.mp c).1]
section
variable{P:Sb}{w:World}{K:R7}{a:iK}{H d:Hp}{M:cy}{Z:ZS}{c:Nat}
theorem nM.setT(h:nM M c){j:Nat}{t f:eh}(g:M.trs[j]?=some t)(h1:f.nm=t.nm)(h2:f.home=t.home)(h3:f.arms=t.arms)(h4:f.rule=t.rule)(h5:f.shuts=t.shuts)(p:f.bar.length<=c):nM (M.setT j f) c:=by
 have r:(M.trs.set j f).map eh.nm=M.trs.map eh.nm:=eg g eh.nm h1;refine{h with tn:=by rw[r];exact h.tn,la:=λl s=>?_,tr:=λx b=>?_,tc:=by show(M.trs.set j f).length<=10;rw[u_];exact h.tc,br:=λx b=>?_}
 ·have q:=h.la l s;refine{q with own:=λk z u=>?_};rcases q.own k z u with e|⟨x,b,m,y,n,o⟩
  ·exact .inl e
  ·obtain⟨i,hi⟩:=m3.mp b
   by_cases e:i=j
   ·subst e;rw[g]at hi;cases hi;exact .inr ⟨f,i_ (kF g),by rw[h2];exact m,y,by rw[h3];exact n,by rw[h1];exact o⟩
   ·exact .inr ⟨x,i_ (i:=i) (by rw[ry λz=>e z.symm];exact hi),m,y,n,o⟩
 ·rcases QR b with q|rfl
  ·exact{h.tr x q with}
  ·have q:=h.tr t (i_ g);exact⟨by rw[h1];exact q.wd,by rw[h2];exact q.hm,by rw[h3];exact q.a1,by rw[h3];exact q.a4,by rw[h3];exact q.nd,by rw[h3];exact q.aw,by rw[h4];exact q.hg,by rw[h5];exact q.s8⟩
 ·rcases QR b with q|rfl
  ·exact h.br x q
  ·exact p
theorem cE.setTr(h:cE P w K a H M Z c)(e:M.trs[j]?=some t)(h1:t'.nm=t.nm)(h0:t'.home=t.home)(h2:t'.arms=t.arms)(h3:t'.rule=t.rule)(h4:t'.shuts=t.shuts)(i:t'.bar.length<=c)(f:(r0=.tr j/\t'.bar=t.bar)\/(r0=.ba j/\t'.home=t.home/\t'.pau=t.pau/\t'.clo=t.clo))(l:cont P w a (M.setT j t') Z r0=some o'):cE P w K a (aA H (Z.G r0) o') (M.setT j t') Z c/\gu H M Z (aA H (Z.G r0) o') (M.setT j t') Z:=by refine⟨⟨h.g.setTr e h1 h2 h3 h4 f l,h.ok.setT e h1 h0 h2 h3 h4 i,h.tk,h.ow,h.ds⟩,gu.put ?_ rfl rfl (u_ ..) rfl λx b=>.inl b⟩;have hi:=(d_.mp e).1;rcases f with⟨rfl,_⟩|⟨rfl,_⟩<;>exact hi
end
theorem xz{S:AS}:∀{W:Wl},(∀x∈W,x.2=0)->jW S W<=0|[],_=>RX _|x::r,h=>by rw[Cr,h x mm];have:=xz (S:=S) (W:=r) λy b=>h y (k4 _ b);lia
def pL:bS:=aZ "" ""
def HQ(M:cy)(i:Nat)(l:cR)(z:Int):cy:=M.setL i {l with S:=cZ M.p (cI l.S [(pL,z)]) [(pL,z)]}
def oR(t:eh):List Int:=List.replicate t.arms.length 0
inductive Md(P:Sb)(w:World)(K:R7)(a:iK)(vs:List V)(H:Hp)(Q:VK)(E:XK):Prop|mk(M:cy)(Z:ZS)(c i:Nat)(l:cR)(z:Int)(_:vs=[.ref (Z.G .hh),.str l.nm,.int z])(_:cE P w K a H M Z c)(_:c<=63)(_:M.las[i]?=some l)(_:0<=z)(_:(jW l.S [(pL,z)]<=((pN M.p l.S.oc).length:Int)->∀(r:Addr)(Z':ZS)(H':Hp),gu H M Z H' (HQ M i l z) Z'->cE P w K a H' (HQ M i l z) Z' (c+1)->H r=none->H' r=some (.lst [])->Z'.ds=Z.ds->Q (.ref r) H'))(_:(((pN M.p l.S.oc).length:Int)<jW l.S [(pL,z)]->∀H',am H H'->E (.ref a.oP) none H'))
inductive JD(P:Sb)(w:World)(K:R7)(a:iK)(vs:List V)(H:Hp)(Q:VK)(E:XK):Prop|mk(M:cy)(Z:ZS)(c j:Nat)(t:eh)(b:Bool)(_:vs=[.ref (Z.G .hh),.str t.nm,.bl b])(_:cE P w K a H M Z c)(_:M.trs[j]?=some t)(_:∀(r:Addr)(H':Hp),gu H M Z H' (M.setT j {t with pau:=b}) Z->cE P w K a H' (M.setT j {t with pau:=b}) Z c->H r=none->H' r=some (.lst [])->Q (.ref r) H')
inductive JN(P:Sb)(w:World)(K:R7)(a:iK)(vs:List V)(H:Hp)(Q:VK)(E:XK):Prop|mk(M:cy)(Z:ZS)(c i j:Nat)(l:cR)(t:eh)(_:vs=[.ref (Z.G .hh),.str t.nm])(_:cE P w K a H M Z c)(_:c<=63)(_:M.trs[j]?=some t)(_:M.las[i]?=some l)(_:l.nm=t.home)(_:∀(r:Addr)(us:List V)(Z':ZS)(H':Hp),gu H M Z H' (n6 (M.setT j {t with clo:=true}) i l {t with clo:=true} (oR t)) Z'->cE P w K a H' (n6 (M.setT j {t with clo:=true}) i l {t with clo:=true} (oR t)) Z' (c+1)->H r=none->H' r=some (.lst us)->Z'.ds=Z.ds->Q (.ref r) H')
section
def qP(T:Txt K mg a):aO P w K mg base (sN P w) 4 a.dh.x a.dh.d ["self","name","number"] (Md P w K a):=by
 refine T.dh.okE qE λas A outer s H vs Q E u h=>?_
 ·obtain⟨M,Z,c,i,l,z,rfl,f,hc,j,hz,q,qe⟩:=h;refine⟨_,(ag (aR (bo (aG K rfl (dL (ck u) (aG K rfl (Y 0)) (Y 1) (λ_ _=>rfl))) T.bf T.dS.m ((nC (P:=P) (w:=w) T).mono (by decide)) u T.dS.b .nil eE (ac (bn (ac (bO (ac (cB (v:=.ref a.vN) ⟨_,T.Hu,rfl⟩ rfl) (ac (Y 2) O))) O)) O))) (ah (ax (bn O)))),?_⟩
  have hL:=f.ok.la l (i_ j);obtain⟨m,y,a0⟩:=f.g.tab j;obtain⟨a2,I⟩:=y.ins;refine ip f.g.house T.az T.aN rfl rfl (U rfl (rG (.ref (Z.G (.lo i))) (by rw[<-f.ok.lget (Z:=Z) j];exact dG.k (k:=.inr l.nm) f.g.lays) ?_));refine rF (f.g.layer j) T.bJ T.dB rfl (rM I rfl ?_);refine U rfl ⟨ls rfl,λe J=>⟨ls rfl,λD hD=>?_⟩⟩;have F:=aj (o:=.lst [.ref e]) (aj (o:=.tup [.ref a.vN,.int z]) (am.refl H) J) hD;have e5:aA (aA H e (.tup [.ref a.vN,.int z])) D (.lst [.ref e]) D=some (.lst [.ref e]):=ae;have e4:aA (aA H e (.tup [.ref a.vN,.int z])) D (.lst [.ref e]) e=some (.tup [.ref a.vN,.int z]):=by rw[ak (aD ae hD)];exact ae
  generalize aA (aA H e (.tup [.ref a.vN,.int z])) D (.lst [.ref e])=H2 at F e4 e5⊢;have n:=f.same F;obtain⟨m2,t,B⟩:=n.g.tab j;have a3:=f.tk i;have a5:=f.ow i;have hp:=f.ok.p;refine⟨Z.G (.tb i),Z.G (.od i),Z.G (.td i),D,M.p,Z.ow i,Z.tk i,m2,l.S,[(pL,z)],[.ref e],rfl,t,B,(n.g.tabs i l j).2.2.1,hL.ok,e5,.cons ⟨e,.ref a.vN,rfl,aW.of e4,a.vN,rfl,T.DI.sq _⟩ .nil,λx L=>by rw[List.mem_singleton.mp L];exact hz,by simp,by simp,by lia,by lia,by lia,λN lb a6 a7 m' R off V W X a8 ap nw nl b1 b2=>?_,λaa R s3=>qe aa R (F.trans s3)⟩;obtain⟨Z3,ad,al,an,eG⟩:=n.told j off V W X nw b1 b2 (ld _ (jo _ hL.ok)) λk x L=>by
   rcases l6 L with h|h
   ·exact .inl ⟨x,mG h⟩
   ·exact .inr (.inl (List.mem_singleton.mp h))
  refine⟨ls rfl,λr u=>?_⟩;have s4:=aj (o:=.lst []) (am.refl R) u;have C:=(gu.of F).trans al;exact q N r Z3 _ (C.trans (gu.of s4)) (ad.same s4) (C.dm _ u) ae an
def jU(T:Txt K mg a):aO P w K mg base dk 1 a.ce.x a.ce.d ["self","name","paused"] (JD P w K a):=by
 refine T.ce.ok jN λu A outer s H v Q E l h=>?_
 ·obtain⟨M,Z,c,j,t,b,rfl,e,f,q⟩:=h;refine⟨_,(ag (bg 3 jN.nd (dL (ck l) (aG K rfl (Y 0)) (Y 1) (λ_ _=>rfl))) (ag (cu K rfl (Y 3) (Y 2)) (ah (ax (bn O))))),?_⟩
  have m:=e.g.trial f;refine ip e.g.house T.az T.aP rfl rfl (U rfl (rG (.ref (Z.G (.tr j))) (by rw[<-e.ok.tget (Z:=Z) f];exact dG.k (k:=.inr t.nm) e.g.tris) (aq ?_)));refine U rfl (U rfl ⟨Z.G (.tr j),_,_,U rfl ⟨m,T.bd,T.iF,by simp,?_⟩⟩);obtain⟨n,i⟩:=e.setTr (t':={t with pau:=b}) (r0:=.tr j) f rfl rfl rfl rfl rfl (e.ok.br t (i_ f)) (.inl ⟨rfl,rfl⟩) (by simp only[cont,kF f];rfl);refine⟨ls rfl,λr l=>?_⟩;have p:=aj (o:=.lst []) (am.refl _) l;exact q r _ (i.trans (gu.of p)) (n.same p) (i.dm _ l) ae
def pC(T:Txt K mg a):aO P w K mg base (sN P w) 5 a.cW.x a.cW.d ["self","name"] (JN P w K a):=by
 refine T.cW.okE jO λas A outer s H vs Q E z h=>?_
 ·obtain⟨M,Z,c,i,j,l,t,rfl,f,hc,n,hl,hh,q⟩:=h;refine⟨_,(ag (bg 2 jO.nd (dL (ck z) (aG K rfl (Y 0)) (Y 1) (λ_ _=>rfl))) (ag (cu K rfl (Y 2) eD) (ah (ax (bo (Y 0) T.az T.bC.m ((gh (P:=P) (w:=w) T).mono (by decide)) z T.bC.b .nil eE (ac (Y 1) (ac (av GU (bn (ac af O)) (ay (aH K rfl) (by rfl) T.bE L2.aI (ac (aG K rfl (Y 2)) O))) O))))))),?_⟩
  have B:=f.g.trial n;refine ip f.g.house T.az T.aP rfl rfl (U rfl (rG (.ref (Z.G (.tr j))) (by rw[<-f.ok.tget (Z:=Z) n];exact dG.k (k:=.inr t.nm) f.g.tris) (aq ?_)));refine U rfl ⟨Z.G (.tr j),_,_,U rfl ⟨B,T.bd,T.d9,by simp,?_⟩⟩;have u:=kF (t':={t with clo:=true}) n;obtain⟨e,C⟩:=f.setTr (t':={t with clo:=true}) (r0:=.tr j) n rfl rfl rfl rfl rfl (f.ok.br t (i_ n)) (.inl ⟨rfl,rfl⟩) (by simp only[cont,kF n];rfl);have D:=e.g.house;have F:=e.g.trial u;obtain⟨v,-,-⟩:=e.g.trs j _ u;refine nh D rfl rfl (U rfl ⟨ls rfl,λI J=>?_⟩);have L:=aj (o:=.lst [.int 0]) (am.refl _) J;have e2:aA (aA H (Z.G (.tr j)) (.ins a.fC (Z.dx (.tr j)) [("home",.str t.home),("arms",.ref (Z.ar j)),("rule",Z.ru j),("shuts",.ref (Z.sh j)),("paused",.bl t.pau),("closed",.bl true),("barred",.ref (Z.G (.ba j)))])) I (.lst [.int 0]) I=some (.lst [.int 0]):=ae;refine ip (L _ _ F) T.bd T.fA rfl rfl ⟨_,t.arms.length,rfl,.inr ⟨_,am.tseq L v,by simp⟩,I,_,U rfl ⟨rfl,e2,by lia,by have:=(f.ok.tr t (i_ n)).a4;lia,c8 (by have:=(f.ok.tr t (i_ n)).a4;simp;lia),λg hg=>?_⟩⟩;have N:=aj (o:=.lst (List.replicate (t.arms.length:Int).toNat [V.int 0]).flatten) L hg;have e0:(List.replicate (t.arms.length:Int).toNat [V.int 0]).flatten=(oR t).map V.int:=by
   unfold oR;rw[ot,List.map_replicate];generalize t.arms.length=j
   induction j with|zero=>rfl|succ j ih=>rw[sD,N_,ih,sD];rfl
  rw[e0]at N⊢;have R:∀x∈r9 t.nm t.arms (oR t),x.2=0:=λx W=>by obtain⟨p,hp,rfl⟩:=nk.mp W;exact List.eq_of_mem_replicate (QE hp).2
  have X:=xz (S:=l.S) R;refine⟨M.setT j {t with clo:=true},Z,c,i,j,l,{t with clo:=true},g,oR t,rfl,e.same N,hc,u,hl,hh,.inl (aX.of ae),Qr,λx W=>by rw[List.eq_of_mem_replicate W];exact RX _,λa0 r us Z' H4 aa ad z al an=>?_,λap=>absurd X (by show¬jW l.S (r9 t.nm t.arms (oR t))<=0;have:jW l.S (r9 t.nm t.arms (oR t))>_:=ap;lia)⟩;have y:=C.trans (gu.of N);exact q r us Z' H4 (y.trans aa) ad (y.dm _ z) al an
end
def gM(bs:Sc)(g:Str):List Str:=if g∈bs then bs else bs++[g]
def GN(bs:Sc)(g:Str):eY (bs.map λg=>((.inr g:cg),V.bl true)) (.inr g) (.bl true)=(gM bs g).map λg=>((.inr g:cg),V.bl true):=by
 unfold gM
 by_cases h:g∈bs
 ·rw[kw h];unfold eY;rw[kw (by rw[List.any_map,Q9];exact⟨g,h,by simp⟩),w1];refine Qf λx _=>?_;show(if((.inr x:cg))=.inr g then((.inr x:cg),V.bl true)else _)=_
  split<;>rfl
 ·rw[ku h,pi,k_]
  ·rfl
  ·have:∀cs:List Str,g∉cs->bp (cs.map λg=>((.inr g:cg),V.bl true)) (.inr g)=none:=by
    intro cs
    induction cs with|nil=>intro _;rfl|cons x r b=>intro hn;rw[oD,bK λe=>hn (by rw[<-sT e];exact mm)];exact b λz=>hn (k4 _ z)
   exact this bs h
theorem G8:∀{l:List d},(l.map f).Nodup->∀x∈l,∀y∈l,f x=f y->x=y
 |[],_,x,b,_,_,_=>nomatch b|z::r,h,x,b,y,c,e=>by
  rw[oD,R4]at h;rcases pw.mp b with q|q<;>rcases pw.mp c with p|p
  ·rw[q,p]
  ·exact absurd (nk.mpr ⟨y,p,by rw[<-e,q]⟩) h.1
  ·exact absurd (nk.mpr ⟨x,q,by rw[e,p]⟩) h.1
  ·exact G8 h.2 x q y p e
def BC(l:cR)(t:eh)(g:Str):List Str:=if∃x∈l.ins,x.1=g/\x.2.1=t.nm then[g]else[]
def Dl(M:cy)(i j:Nat)(l:cR)(t:eh)(g:Str):cy:=(M.setT j {t with bar:=gM t.bar g}).setL i {l with ins:=dg l.ins (BC l t g)}
inductive Oh(P:Sb)(w:World)(K:R7)(a:iK)(vs:List V)(H:Hp)(Q:VK)(E:XK):Prop|mk(M:cy)(Z:ZS)(c i j:Nat)(l:cR)(t:eh)(g:Str)(_:vs=[.ref (Z.G .hh),.str g,.str t.nm])(_:cE P w K a H M Z c)(_:c<=63)(_:M.trs[j]?=some t)(_:M.las[i]?=some l)(_:l.nm=t.home)(_:DX g)(_:∀(r:Addr)(us:List V)(Z':ZS)(H':Hp),gu H M Z H' (Dl M i j l t g) Z'->cE P w K a H' (Dl M i j l t g) Z' (c+1)->H r=none->H' r=some (.lst us)->Z'.ds=Z.ds->Q (.ref r) H')
section
def tG(T:Txt K mg a):aO P w K mg base dk 2 a.d6.x a.d6.d ["self","guest","name"] (Oh P w K a):=by
 refine T.d6.ok iB λa2 A outer s H vs Q E n h=>?_
 ·obtain⟨M,Z,c,i,j,l,t,g,rfl,p,hc,B,C,hh,hg,q⟩:=h;refine⟨_,(ag (bg 3 iB.nd (dL (ck n) (aG K rfl (Y 0)) (Y 2) (λ_ _=>rfl))) (ag (bg 4 iB.nd (dL (ck n) (aG K rfl (Y 0)) (aG K rfl (Y 3)) (λ_ _=>rfl))) (ag (ki eD (kj (aG K rfl (Y 3)) (Y 1) (qC (ck n)))) (ag (aJ (PW.pt (oA (oB (Ch (ck n) (Y 1) (aG K rfl (Y 4))) rfl) (lH (aE aS (df K (dL (ck n) (aG K rfl (Y 4)) (Y 1) (λ_ _=>rfl)) af) (Y 2) (aF _))))) (ah (ax (bo (Y 0) T.az T.cx.m ((kO (P:=P) (w:=w) T).mono (by decide)) n T.cx.b .nil bh (ac (Y 4) (ac (bn (ac (Y 1) O)) O))))) aC) (ah (ax (bn O))))))),?_⟩
  have ad:=i_ B;have hL:=p.ok.la l (i_ C);have D:=p.g.trial B;have F:=p.ok.lget (Z:=Z) C;rw[hh]at F;refine ip p.g.house T.az T.aP rfl rfl (U rfl (rG (.ref (Z.G (.tr j))) (by rw[<-p.ok.tget (Z:=Z) B];exact dG.k (k:=.inr t.nm) p.g.tris) (aq ?_)));refine ip p.g.house T.az T.aN rfl rfl (ip D T.bd T.ik rfl rfl (rG (.ref (Z.G (.lo i))) (by rw[<-F];exact dG.k (k:=.inr t.home) p.g.lays) (aq ?_)));have I:=p.ok.br t ad;refine ip D T.bd T.iG rfl rfl (U rfl ⟨Z.G (.ba j),_,.inr g,rfl,rfl,p.g.barred B,by rw[c_,lm];lia,?_⟩);rw[GN];have a3:=kF (t':={t with bar:=gM t.bar g}) B;obtain⟨f,v⟩:=(p.mono (r3 c)).setTr (t':={t with bar:=gM t.bar g}) (r0:=.ba j) (o':=.dK ((gM t.bar g).map λg=>((.inr g:cg),V.bl true))) B rfl rfl rfl rfl rfl (by show(gM t.bar g).length<=c+1;unfold gM;split;exact sg I;rw[kt];exact wr I) (.inr ⟨rfl,rfl,rfl,rfl⟩) (by simp only[cont,kF B];rfl);generalize aA H (Z.G (.ba j)) (.dK ((gM t.bar g).map λg=>((.inr g:cg),V.bl true)))=H1 at f v⊢;have J:=f.g.layer C;have L:=f.g.inside C;have N:=f.g.seats i l C;refine U rfl (ip J T.bJ T.cj rfl rfl (rG (bp (Z.iv i) (.inr g)) (dG.k (k:=.inr g) L) (U rfl ?_)));have u:BC l t g=[]->∀r,H1 r=none->Q (.ref r) (aA H1 r (.lst [])):=λe r n=>by
   have R:=aj (o:=.lst []) (am.refl _) n;have em:Dl M i j l t g=M.setT j {t with bar:=gM t.bar g}:=by unfold Dl;rw[e,lL];exact mP (M:=M.setT j {t with bar:=gM t.bar g}) C
   exact q r [] Z _ (em▸v.trans (gu.of R)) (em▸f.same R) (v.dm _ n) ae rfl
  by_cases z:g∈l.ins.map (·.1)
  ·obtain⟨x,hx,ex⟩:=nk.mp z;obtain⟨s,hv,al⟩:=N.find hL.nd x hx;rw[ex]at hv;rw[hv];refine bD (ip J T.bJ T.cj rfl rfl (U rfl (rG (.ref s) (by rw[<-hv];exact dG.k (k:=.inr g) L) (rX al (ao (k:=0) rfl) (U rfl ⟨rfl,U rfl ?_⟩)))))
   by_cases hq:x.2.1=t.nm
   ·have S:BC l t g=[g]:=kw ⟨x,hx,ex,hq⟩;rw[hq];refine bW (nh f.g.house rfl rfl (U rfl (U rfl ⟨ls rfl,λDg an=>?_⟩)));have R:=aj (o:=.lst [.str g]) (am.refl _) an;refine⟨M.setT j {t with bar:=gM t.bar g},Z,c+1,i,l,Dg,[g],rfl,f.same R,C,ae,λy W=>by rw[List.mem_singleton.mp W];exact z,by simp,by simp,λr us Z6 H6 ap as n a0 X=>?_⟩;have em:Dl M i j l t g=(M.setT j {t with bar:=gM t.bar g}).setL i {l with ins:=dg l.ins [g]}:=by unfold Dl;rw[S]
    have aa:=v.trans (gu.of R);exact q r us Z6 H6 (em▸aa.trans ap) (em▸as) (aa.dm _ n) a0 X
   ·have S:BC l t g=[]:=ku λ⟨y,W,e1,e2⟩=>hq (by rw[<-G8 hL.nd y W x hx (e1.trans ex.symm)];exact e2)
    refine tV hq ⟨ls rfl,u S⟩
  ·have S:BC l t g=[]:=ku λ⟨y,W,e1,e2⟩=>z (nk.mpr ⟨y,W,e1⟩);rw[N.none z];exact bV ⟨ls rfl,u S⟩
end
def zJ(M:cy)(nm:Str)(sl:Int):cy:={M with las:=M.las++[⟨nm,sl,AS.new,[]⟩]}
def zI(M:cy)(t:eh):cy:={M with trs:=M.trs++[t]}
section
variable{P:Sb}{w:World}{K:R7}{a:iK}{H d:Hp}{M:cy}{Z:ZS}{c:Nat}
def nM.addL(h:nM M c){nm:Str}{sl:Int}(g:Wd nm)(hn:nm∉M.las.map cR.nm)(i:0<=sl/\sl<=M.p)(h4:M.las.length<4):nM (zJ M nm sl) c:=by
 have em:(M.las++[(⟨nm,sl,AS.new,[]⟩:cR)]).map cR.nm=M.las.map cR.nm++[nm]:=by rw[k_];rfl
 refine{h with ln:=?_,la:=λl j=>?_,tr:=λt f=>{h.tr t f with hm:=?_},l4:=by show(M.las++[_]).length<=4;rw[kt];exact h4}
 ·show((M.las++[(⟨nm,sl,AS.new,[]⟩:cR)]).map cR.nm).Nodup;rw[em,rr];exact⟨h.ln,by simp,λx b y m e=>hn (by rw[<-List.mem_singleton.mp m,<-e];exact b)⟩
 ·rcases List.mem_append.mp j with q|q
  ·exact{h.la l q with}
  ·rw[List.mem_singleton.mp q];exact⟨g,i,AS.new_ok _,n0 _,λx b=>(nomatch b),QM,λk q n=>(nomatch n)⟩
 ·show t.home∈(M.las++[(⟨nm,sl,AS.new,[]⟩:cR)]).map cR.nm;rw[em];exact D2 _ (h.tr t f).hm
def nM.addT(h:nM M c){t:eh}(ok:Lc M t)(hn:t.nm∉M.trs.map eh.nm)(h4:M.trs.length<10)(f:t.bar=[]):nM (zI M t) c:=by
 refine{h with tn:=?_,la:=λl g=>?_,tr:=λx b=>?_,tc:=by show(M.trs++[_]).length<=10;rw[kt];exact h4,br:=λx b=>?_}
 ·show((M.trs++[t]).map eh.nm).Nodup;rw[k_,rr];exact⟨h.tn,by simp,λx b y i e=>hn (by rw[<-show y=t.nm from List.mem_singleton.mp i,<-e];exact b)⟩
 ·have q:=h.la l g;refine{q with own:=λk z j=>?_};rcases q.own k z j with e|⟨x,b,e⟩
  ·exact .inl e
  ·exact .inr ⟨x,D2 _ b,e⟩
 ·rcases List.mem_append.mp b with q|q
  ·exact{h.tr x q with}
  ·rw[List.mem_singleton.mp q];exact{ok with}
 ·rcases List.mem_append.mp b with q|q
  ·exact h.br x q
  ·rw[List.mem_singleton.mp q,f];exact n0 _
end
inductive Eu(P:Sb)(w:World)(K:R7)(a:iK)(vs:List V)(H:Hp)(Q:VK)(E:XK):Prop|mk(M:cy)(Z:ZS)(c:Nat)(nm:Str)(sl:Int)(_:vs=[.ref (Z.G .hh),.str nm,.int sl])(_:cE P w K a H M Z c)(_:Wd nm)(_:nm∉M.las.map cR.nm)(_:(0<=sl/\sl<=M.p))(_:M.las.length<4)(_:∀(r:Addr)(Z':ZS)(H':Hp),gu H M Z H' (zJ M nm sl) Z'->cE P w K a H' (zJ M nm sl) Z' c->H r=none->H' r=some (.lst [])->Z'.ds=Z.ds->Q (.ref r) H')
inductive Et(P:Sb)(w:World)(K:R7)(a:iK)(vs:List V)(H:Hp)(Q:VK)(E:XK):Prop|mk(M:cy)(Z:ZS)(c:Nat)(H0:Hp)(t ba dx ar sh:Addr)(ru:V)(x:eh)(_:vs=[.ref (Z.G .hh),.str x.nm,.ref t])(_:cE P w K a H0 M Z c)(_:am H0 H)(_:H0 t=none)(_:H0 ba=none)(_:H ba=some (.dK []))(_:H t=some (.ins a.fC dx [("home",.str x.home),("arms",.ref ar),("rule",ru),("shuts",.ref sh),("paused",.bl false),("closed",.bl false),("barred",.ref ba)]))(_:aW K H0 ar (x.arms.map V.str))(_:ff K H0 x.rule ru)(_:aW K H0 sh (x.shuts.map V.str))(_:x.pau=false)(_:x.clo=false)(_:x.bar=[])(_:Lc M x)(_:x.nm∉M.trs.map eh.nm)(_:M.trs.length<10)(_:∀(r:Addr)(Z':ZS)(H':Hp),gu H0 M Z H' (zI M x) Z'->cE P w K a H' (zI M x) Z' c->H0 r=none->H' r=some (.lst [])->Z'.ds=Z.ds->Q (.ref r) H')
section
def pB(T:Txt K mg a):aO P w K mg base dk 5 a.cV.x a.cV.d ["self","name","slope"] (Eu P w K a):=by
 refine T.cV.ok pd λaa A outer s H vs Q E j h=>?_
 ·obtain⟨M,Z,c,nm,sl,rfl,t,hw,hn,hs,h4,q⟩:=h;refine⟨_,(ag (ki (tY T.Hj ((tD (P:=P) (w:=w) T).mono (by decide)) j rfl T.Kw T.dY.b .nil bh (ac (Y 2) (ac (aG K rfl (Y 0)) O))) (kj (aG K rfl (Y 0)) (Y 1) (qC (ck j)))) (ah (ax (bn O)))),?_⟩
  have X:=t.g.house;refine U rfl (ip X T.az T.bP rfl rfl (λlo ty l F ad=>?_));have f2:am H (aA (aA H ty (.own lo)) lo (.ins a.eT ty [])):=λb o e=>by rw[ak (aD e l),ak (aD e F)];exact e
  have m:aA (aA H ty (.own lo)) lo (.ins a.eT ty []) lo=some (.ins a.eT ty []):=ae;generalize aA (aA H ty (.own lo)) lo (.ins a.eT ty [])=H2 at f2 m⊢;refine⟨lo,ty,sl,M.p,rfl,m,λtb od td iu I u J L N R f3 hL S hu=>⟨rfl,?_⟩⟩;have f:am H I:=λb o e=>f3 b o (f2 b o e) (aD e l);refine ip (f _ _ X) T.az T.aN rfl rfl (U rfl ⟨Z.G .ln,_,.inr nm,rfl,rfl,f _ _ t.g.lays,by rw[iW,c_,lm];lia,?_⟩);rw[pi _ (my hn)];have v:∀b,H b=none->b≠Z.G .ln:=λb e z=>by rw[z,t.g.lays]at e;cases e
  have y:=f2.free J;have B:=f2.free L;have C:=f2.free u;have D:=f2.free N;obtain⟨dT,iT⟩:=S.ins;obtain⟨Z',e1,V,e2,W,e4,hG,lv⟩:=t.g.newL (H':=aA I (Z.G .ln) (.dK (jV (M.las.map cR.nm) (λi=>.ref (Z.G (.lo i)))++[(.inr nm,.ref lo)]))) (nm:=nm) (sl:=sl) l D C y B R (λb o e n=>by rw[ak n];exact f b o e) ae (by rw[ak (v _ l)];exact hL) ⟨⟨dT,by rw[ak (v _ C)];exact iT⟩,by rw[ak (v _ y)];exact S.own,by rw[ak (v _ B)];exact S.tak,λx k=>(nomatch k),.nil⟩ (λz=>by rw[z,u]at m;cases m) (by rw[ak (v _ D)];exact hu)
  refine⟨ls rfl,λr j=>?_⟩;have s5:=aj (o:=.lst []) (am.refl _) j;have st:gu H M Z (aA I (Z.G .ln) (.dK (jV (M.las.map cR.nm) (λi=>.ref (Z.G (.lo i)))++[(.inr nm,.ref lo)]))) (zJ M nm sl) Z':=by
   refine⟨e1,λb o e n=>by rw[ak λz=>n (.inl ⟨.ln,trivial,z⟩)];exact f b o e,λb z=>?_,λb z=>f.free (mx z),V⟩;rcases z with⟨r,j,rfl⟩|⟨i,hi,x,k,e⟩|⟨x,k,e⟩
   ·have j:xk (M.las++[_]).length M.trs.length r:=j;rw[kt]at j;rcases lv r j with q|⟨q,p⟩
    ·exact .inr q
    ·exact .inl (.inl ⟨r,p,q⟩)
   ·rw[(W i).1]at k;have hi:i<(M.las++[_]).length:=hi;rw[kt]at hi
    by_cases z:i=M.las.length
    ·rw[kw z]at k;cases k
    ·rw[ku z]at k;exact .inl (.inr (.inl ⟨i,by have:i<M.las.length+1:=hi;lia,x,k,e⟩))
   ·rw[e4]at k;exact .inl (.inr (.inr ⟨x,k,e⟩))
  refine q r Z' _ (st.trans (gu.of s5)) (cE.same ⟨hG,t.ok.addL hw hn hs h4,λi=>?_,λi=>?_,by rw[e2];exact t.ds⟩ s5) (st.dm _ j) ae e2
  ·rw[(W i).1]
   split
   ·exact n0 _
   ·exact t.tk i
  ·rw[(W i).2]
   split
   ·exact n0 _
   ·exact t.ow i
def pA(T:Txt K mg a):aO P w K mg base dk 4 a.cU.x a.cU.d ["self","name","trial"] (Et P w K a):=by
 refine T.cU.ok pb λV A outer s H vs Q E f h=>?_
 ·obtain⟨M,Z,c,C,t,ba,dx,ar,sh,ru,x,rfl,j,k,l,m,W,X,q1,q2,q3,D,F,v,ok,hn,h10,q⟩:=h;refine⟨_,(ag (ki (Y 2) (kj (aG K rfl (Y 0)) (Y 1) (qC (ck f)))) (ah (ax (bn O)))),?_⟩
  refine U rfl (ip (k _ _ j.g.house) T.az T.aP rfl rfl (U rfl ⟨Z.G .tn,_,.inr x.nm,rfl,rfl,k _ _ j.g.tris,by rw[iW,c_,lm];lia,?_⟩));rw[pi _ (my hn)];have I:∀b,C b=none->b≠Z.G .tn:=λb e z=>by rw[z,j.g.tris]at e;cases e
  obtain⟨J,e1,B,L,N,e4,e5,R,lv⟩:=j.g.newT (H':=aA H (Z.G .tn) (.dK (jV (M.trs.map eh.nm) (λi=>.ref (Z.G (.tr i)))++[(.inr x.nm,.ref t)]))) (nm:=x.nm) (home:=x.home) (arms:=x.arms) (shuts:=x.shuts) (rule:=x.rule) l m (λb o e n=>by rw[ak n];exact k b o e) ae (by rw[ak (I _ l)];exact X) (by rw[ak (I _ m)];exact W) q1 q2 q3;have ex:(⟨x.nm,x.home,x.arms,x.rule,x.shuts,false,false,[]⟩:eh)=x:=by obtain⟨a1,a2,a3,a4,a5,a6,a7,a8⟩:=x;simp only at D F v;rw[D,F,v]
  rw[ex]at R;refine⟨ls rfl,λr f=>?_⟩;have S:=aj (o:=.lst []) (am.refl _) f;have st:gu C M Z (aA H (Z.G .tn) (.dK (jV (M.trs.map eh.nm) (λi=>.ref (Z.G (.tr i)))++[(.inr x.nm,.ref t)]))) (zI M x) J:=by
   refine⟨e1,λb o e n=>by rw[ak λz=>n (.inl ⟨.tn,trivial,z⟩)];exact k b o e,λb z=>?_,λb z=>k.free (mx z),B⟩;rcases z with⟨r,f,rfl⟩|⟨i,hi,y,u,e⟩|⟨y,u,e⟩
   ·have f:xk M.las.length (M.trs++[_]).length r:=f;rw[kt]at f;rcases lv r f with q|⟨q,p⟩
    ·exact .inr q
    ·exact .inl (.inl ⟨r,p,q⟩)
   ·rw[N]at u;exact .inl (.inr (.inl ⟨i,hi,y,u,e⟩))
   ·rw[e5]at u;exact .inl (.inr (.inr ⟨y,u,e⟩))
  exact q r J _ (st.trans (gu.of S)) (cE.same ⟨R,j.ok.addT ok hn h10 v,λi=>by rw[N];exact j.tk i,λi=>by rw[e4];exact j.ow i,by rw[L];exact j.ds⟩ S) (st.dm _ f) ae L
end
section
def jS(T:Txt K mg a):aO P w K mg base dk 1 a.b7.x a.b7.d ["self","place"] (Eo P w K a.bN):=by
 refine T.b7.ok o7 λc A outer s H i Q E e h=>?_
 ·obtain⟨t,f,j,n,ow,tk,m,p,rfl,b,q⟩:=h;refine⟨_,(ah (ax (Ay (ck e) (aG K rfl (Y 0)) (Y 1) ⟨rfl,rfl,rfl,rfl⟩))),?_⟩;obtain⟨dx,g⟩:=b.ins;exact U rfl ⟨t,_,dx,_,U rfl ⟨g,T.bf,T.ee,rfl,f,rfl,.inl ⟨_,.inl b.own⟩,U rfl ⟨_,dG.k (k:=.inl p) b.own,q⟩⟩⟩
end
def Lk(h:Wd x):PyData.strOk x=true:=by
 obtain⟨_,_,h⟩:=h;unfold PyData.strOk;rw[<-Array.all_toList,List.all_eq_true];intro c hc;have b:∀c∈mD.cps.toList,decide (c<1114112)=true:=by decide+kernel
 have:=rm (b c (h c hc));simp;lia
structure tT(P:Sb)(w:World)(K:R7)(a:iK)(H0 H:Hp)(M:cy)(Z:ZS)(c:Nat):Prop where
 z:cE P w K a H0 M Z c
 k:∀b o,H0 b=some o->b≠Z.G .ln->H b=some o
section
variable{P:Sb}{w:World}{K:R7}{a:iK}{d H f:Hp}{M:cy}{Z:ZS}{c:Nat}
def tT.same(h:tT P w K a d H M Z c)(s:am H f):tT P w K a d f M Z c:=⟨h.z,λb o e n=>s _ _ (h.k b o e n)⟩
def tT.kp(h:tT P w K a d H M Z c):Kp d H:=⟨λu i e=>h.k _ _ e λz=>(by rw[z,h.z.g.lays]at e;cases e),λu o⟨b,e⟩=>⟨b,h.k _ _ e λz=>by rw[z,h.z.g.lays]at e;cases e⟩⟩
theorem tT.at_(h:tT P w K a d H M Z c)(e:cont P w a M Z r=some o)(n:r≠.ln):H (Z.G r)=some o:=h.k _ _ (h.z.g.at_ r o e) λz=>n (h.z.g.inj r .ln _ _ e rfl z)
def Mw{p:Nat}{m sl:Int}{x:Str}(e:2<=p):0<=wA p m sl x/\wA p m sl x<p:=by
 unfold wA;have h:(0:Int)<(p:Int):=by lia
 split
 ·exact⟨I_ _ (by lia),z_ _ h⟩
 ·exact⟨I_ _ (by lia),z_ _ h⟩
def tT.owner(h:tT P w K a d H M Z c){i:Nat}{l:cR}(n:M.las[i]?=some l){q:Int}(s:0<=q)(u:q<M.p):(bp (Z.ow i) (.inl q)).getD .non=.non\/∃b x y,(bp (Z.ow i) (.inl q)).getD .non=.ref b/\aW K H b [.str x,.str y]/\((x=""/\y="")\/∃(j:Nat)(t:eh),M.trs[j]?=some t/\t.nm=x/\(Wd y/\Wd t.nm/\y∈t.arms)):=by cases A:bp (Z.ow i) (.inl q)with|none=>exact .inl rfl|some v=>
  refine .inr ?_;obtain⟨k,B,m⟩:=(h.z.g.tabs i l n).2.2.1 q v s u A;rcases(h.z.ok.la l (i_ n)).own k q B with rfl|⟨t,o,_,y,r,rfl⟩
  ·obtain⟨b,rfl,e⟩:=m;exact⟨b,_,U rfl ⟨h.kp.tq e,.inl ⟨rfl,rfl⟩⟩⟩
  ·obtain⟨b,rfl,e⟩:=m;obtain⟨j,C⟩:=m3.mp o;have tk:=h.z.ok.tr t o;exact⟨b,_,U rfl ⟨h.kp.tq e,.inr ⟨j,t,C,rfl,tk.aw y r,tk.wd,r⟩⟩⟩
end
inductive L5(P:Sb)(w:World)(K:R7)(a:iK)(vs:List V)(H:Hp)(Q:VK)(E:XK):Prop|mk(H0:Hp)(M:cy)(Z:ZS)(c i:Nat)(l:cR)(g:Str)(mv:V)(ms:List (Str×Int))(bl:Addr)(bs:Sc)(_:vs=[.ref (Z.G .hh),.ref (Z.G (.lo i)),.str g,mv,.ref bl])(_:tT P w K a H0 H M Z c)(_:M.las[i]?=some l)(_:DX g)(_:tS K H ms mv)(_:ms.length<=8)(_:H bl=some (.lst (bs.map V.str)))(_:(∀H',am H H'->Q .non H'))(_:∀(s:Addr)(t:eh)(y:Str)(H':Hp),am H H'->aW K H' s [.str t.nm,.str y]->t∈M.trs->y∈t.arms->Q (.ref s) H')
section
def py(T:Txt K mg a):aO P w K mg base dk 8 a.cS.x a.cS.d ["self","layer","guest","marks","been"] (L5 P w K a):=by
 refine T.cS.ok f8 λbz A outer s H vs Q E R h=>?_
 ·obtain⟨H0,M,Z,c,i,l,g,mv,ms,bl,bs,rfl,B,I,hg,hm,b0,a6,S,qs⟩:=h;refine⟨_,(ag (bg 5 f8.nd (bo (aG K rfl (Y 1)) T.bf T.b7.m ((jS (P:=P) (w:=w) T).mono (by decide)) R T.b7.b .nil bh (ac (bo (Y 0) T.az T.cb.m ((jT (P:=P) (w:=w) T).mono (by decide)) R T.cb.b .nil bh (ac (Y 1) (ac (Y 2) O))) O))) (ag (aJ (PW.pt (eC (aE GW (Y 5) mn (aF _)) (db (aE (Kg K rfl (PP R)) (Y 5) (cB (v:=.ref a.vN) ⟨_,T.Hu,rfl⟩ rfl) (aF _))))) (ah (ax mn)) aC) (ag (bg 6 f8.nd (dL (ck R) (aG K rfl (Y 0)) (df K (Y 5) af) (λ_ _=>rfl))) (ag (aJ (PW.pt (eC (aM K rfl (aG K rfl (Y 6)) (λ_=>rfl)) (eC (oB (Ch (ck R) (Y 2) (aG K rfl (Y 6))) rfl) (db (bT (aM K rfl (bw ((AJ T 6).mono (by decide)) R rfl T.dH.m T.dH.f.kp T.dH.b .nil bh (ac (aG K rfl (Y 6)) (ac (Y 3) O))) (λ_=>rfl))))))) (ah (ax mn)) aC) (ag (aJ (aM K rfl (ay (rN K rfl rfl) (by rfl) T.Hf L2.vH (ac (wc gO ["name"] [] [7] (ai eX) (cw 7) (iV K rfl (aG K rfl (Y 6))) (λcl C s₀ H₀ ex=>⟨(qL gO ["name"] 7),cr,(bX (qN K rfl) (Y 7) (Y 4) (by with_unfolding_all rfl))⟩)) O)) (λ_=>rfl)) (ah (ax mn)) aC) (ah (ax (Y 5)))))))),?_⟩
  have J:=B.z;have hL:=J.ok.la l (i_ I);have hp:=J.ok.p;have a7:=hL.sl;have hI:=B.at_ (r:=.hh) rfl (by simp);have X:=B.at_ (r:=.lo i) (by simp only[cont,I];rfl) (by simp);have aa:=B.at_ (r:=.tb i) (by simp only[cont,I];rfl) (by simp);have a8:=B.at_ (r:=.od i) (by simp only[cont,I];rfl) (by simp);have bb:=B.at_ (r:=.td i) (by simp only[cont,I];rfl) (by simp);have bc:=B.at_ (r:=.tn) rfl (by simp);refine ip X T.bJ T.dB rfl rfl (rM aa rfl (nh hI rfl rfl (U rfl (U rfl ⟨Z.G .hh,Z.G (.lo i),_,_,_,_,M.p,M.salt,l.sl,g,rfl,hI,rfl,rfl,X,rfl,hg,⟨by lia,by lia⟩,⟨by exact a7.1,by lia⟩,λH1 o=>?_⟩))));obtain⟨bi,⟨m,bj,b8⟩,b9,cc⟩:=J.g.tabs i l I;have n:=B.same o;have ad:eI P w K a.bN H1 (Z.G (.tb i)) (Z.G (.od i)) (Z.G (.td i)) M.p (Z.ow i) (Z.tk i) m:=⟨⟨_,o _ _ aa⟩,o _ _ a8,o _ _ bb,λx hx=>dC n.kp (bi x hx),bj.outs λx hx lb xs e1 e2=>n.k _ _ e2 λz=>by rw[z,J.g.lays]at e2;cases e2⟩;have hq:=Mw (m:=M.salt) (sl:=l.sl) (x:=g) hp.1;refine⟨Z.G (.tb i),Z.G (.od i),Z.G (.td i),M.p,Z.ow i,Z.tk i,m,wA M.p M.salt l.sl g,rfl,ad,aq ?_⟩;rcases n.owner I hq.1 hq.2 with e|⟨b,x,y,e,hb,al⟩
  ·rw[e];exact U rfl ⟨rfl,U rfl (bD (bD (S _ o)))⟩
  rw[e];refine U rfl ⟨rfl,U rfl (bV ?_)⟩;have an:PyData.strOk x=true/\PyData.strOk y=true:=by
   rcases al with⟨rfl,rfl⟩|⟨j,t,L,rfl,h1,h2,_⟩
   ·exact⟨by decide+kernel,by decide+kernel⟩
   ·exact⟨Lk h2,Lk h1⟩
  refine U rfl ⟨.tuple [.str x,.str y],.tuple [.str "",.str ""],.tup hb (.cons (.str x) (.cons (.str y) .nil)),.tup (T.DI.sq _) (.cons (.str _) (.cons (.str _) .nil)),?_,by decide+kernel,U rfl ?_⟩
  ·unfold SeqAt.shaped;simp[PyData.canLay0,PyData.canLayAll0,PyData.depth,PyData.depthAll,an.1,an.2]
  refine zf (λ_=>S _ o) (λef=>?_);rcases al with⟨rfl,rfl⟩|⟨j,t,L,rfl,_,_,hy⟩
  ·exact absurd ef (by decide+kernel)
  have ap:=o _ _ bc;have F:=n.at_ (r:=.tr j) (by simp only[cont,L];rfl) (by simp);have bt:=n.at_ (r:=.ba j) (by simp only[cont,L];rfl) (by simp);obtain⟨-,bv,as⟩:=J.g.trs j t L;have a0:=J.ok.tr t (i_ L);refine ip (o _ _ hI) T.az T.aP rfl rfl (U rfl (rX hb (ao (k:=0) rfl) (rG (.ref (Z.G (.tr j))) (by rw[<-J.ok.tget (Z:=Z) L];exact dG.k (k:=.inr t.nm) ap) (aq ?_))));refine ip F T.bd T.iF rfl rfl ⟨t.pau,rfl,?_⟩;refine zf (λ_=>bD (S _ o)) (λ_=>?_);refine U rfl (ip F T.bd T.iG rfl rfl (rG _ (dG.k (k:=.inr g) bt) (U rfl ?_)));refine zf (λ_=>bD (S _ o)) (λ_=>?_);refine ip F T.bd T.nE rfl rfl (U rfl ⟨t.rule,Z.ru j,ms,mv,rfl,bv.kp n.kp,a0.hg,hm.kp (.of o),by lia,λH2 s2=>(U rfl ?_)⟩);have q:=o.trans s2;refine zf (λ_=>S _ q) (λ_=>?_);have a2:=B.same q;refine ip (s2 _ _ F) T.bd T.mz rfl rfl ⟨Z.sh j,rfl,⟨_,a2.kp.tq as⟩,λD hD=>?_⟩;have a3:=q _ _ a6;have h8:=a0.s8;refine iy (K:=K) (a:=Z.sh j) (xs:=t.shuts.map V.str) (λk u H'=>am H2 H'/\H' D=some (.lst u)/\∃(cs:List Bool),u=cs.map V.bl/\cs.length=k) ⟨aj (am.refl _) hD,ae,[],rfl,rfl⟩ (λk u H' _ h=>am.tseq h.1 (a2.kp.tq as)) ?_ ?_
  ·rintro k v u H3 hv⟨W,N,cs,rfl,a5⟩;have hk:k<(t.shuts.map V.str).length:=(d_.mp hv).1;rw[j_]at hv;obtain⟨x,hx,rfl⟩:=Option.map_eq_some_iff.mp hv;refine aq (j3 (bD (U rfl (U rfl ⟨bl,U rfl ⟨.inl (aX.of (W _ _ a3)),rfl,mO bs,N,?_,lf hk ⟨bR W hD,ae,cs++[_],by rw[k_];rfl,by rw[kt,a5];rfl⟩⟩⟩))));rw[c_]at hk⊢;rw[lm];lia
  ·rintro u H3⟨W,N,cs,rfl,a5⟩;refine⟨D,cs,rfl,aX.of N,U rfl ?_⟩;refine zf (λ_=>S _ (q.trans W)) (λ_=>?_);exact U rfl (qs b t y _ (q.trans W) (am.tseq (s2.trans W) hb) (i_ L) hy)
end
def eB.find(g:Str)(h:eB K H dl cv cm):bp cv (.inr g)=none\/∃l c d,bp cv (.inr g)=some (.ref l)/\l≠dl/\H l=some (.lst c)/\iH K H c d/\(g,d)∈cm:=by induction h with|nil=>exact .inl rfl|@cons _ y _ _ h _ b=>
  by_cases e:y.1=g
  ·obtain⟨h1,l,c,h2,n,h3,h4⟩:=h;exact .inr ⟨l,c,y.2,by rw[cz (by rw[h1,e]),h2],n,h3,h4,by rw[<-e];exact mm⟩
  ·rw[bK (λz=>e (by rw[h.1]at z;exact sT z))];exact b.imp id λq=>q.imp λ_ q=>q.imp λ_ q=>q.imp λ_ q=>⟨q.1,q.2.1,q.2.2.1,q.2.2.2.1,k4 _ q.2.2.2.2⟩
def iH.get(h:iH K H c d)(k:Nat)(u:V)(e:c[k]?=some u):∃y:Str×Str,∃s,u=.ref s/\aW K H s [.str y.1,.str y.2]:=(Paired.at_ h k u e).imp λ_ q=>q.2
def yi(K:R7)(H:Hp)(M:cy)(c:List V):Prop:=∀u∈c,∃(b:Addr)(i:Nat)(l:cR)(t y:Str),u=.ref b/\aW K H b [.str l.nm,.str t,.str y]/\M.las[i]?=some l
def yi.kp(e:Kp H H')(h:yi K H M c):yi K H' M c:=λu d=>let⟨b,i,l,t,y,h1,h2,h3⟩:=h u d;⟨b,i,l,t,y,h1,e.tq h2,h3⟩
inductive JW(P:Sb)(w:World)(K:R7)(a:iK)(vs:List V)(H:Hp)(Q:VK)(E:XK):Prop|mk(M:cy)(Z:ZS)(c:Nat)(g:Str)(mv:V)(ms:List (Str×Int))(_:vs=[.ref (Z.G .hh),.str g,mv])(_:cE P w K a H M Z c)(_:c<=63)(_:DX g)(_:tS K H ms mv)(_:ms.length<=8)(_:∀(r:Addr)(us:List V)(H':Hp),am H H'->H r=none->H' r=some (.lst us)->yi K H' M us->us.length<=4->Q (.ref r) H')
section
def mw(T:Txt K mg a):aO P w K mg base dk 9 a.cf.x a.cf.d ["self","guest","marks"] (JW P w K a):=by
 refine T.cf.ok bB λdT A outer s H vs Q E hr h=>?_
 ·obtain⟨M,Z,c,g,mv,ms,rfl,I,hc,hg,hm,c2,q⟩:=h;refine⟨_,(ag (OZ 3 fu [] [7] [7] (ai dn) (cw 7) (d8 K rfl (Ax (ck hr) (aG K rfl (Y 0)) (Y 1) (bn O) ⟨rfl,rfl,rfl,rfl⟩)) (λcl C s₀ H₀ ex=>⟨(qL fu [] 7),cr,(df K (Y 7) af)⟩) bB.nd) (ag (bg 4 bB.nd (bn O)) (ag (GP (P:=P) (w:=w) (dy o_ rfl (At (P:=P) (w:=w) (aG K rfl (Y 0))) (ij K rfl rfl (bL (qK 5 bB.nd) (bL (qK 6 bB.nd) ii))) (ag (bg 7 bB.nd (Ay (ck hr) (aG K rfl (Y 6)) (Y 1) ⟨rfl,rfl,rfl,rfl⟩)) (ag (aJ (aE GW (Y 7) mn (aF _)) (ah (bg 7 bB.nd (bo (Y 0) T.az T.cS.m ((py (P:=P) (w:=w) T).mono (by decide)) hr T.cS.b .nil bh (ac (Y 6) (ac (Y 1) (ac (Y 2) (ac (Y 3) O))))))) aC) (ah (aJ (aE Kf (Y 7) mn (aF _)) (ag (aR (jk K rfl PySem.F.plainAttrs_list PySem.F.slot_list_append PySem.F.type_list_append eZ (Y 3) (ac (df K (Y 7) af) O))) (ah (aR (jk K rfl PySem.F.plainAttrs_list PySem.F.slot_list_append PySem.F.type_list_append eZ (Y 4) (ac (av (AA K rfl) (bO (ac (Y 5) O)) (Y 7)) O))))) aC)))))) (ah (ax (Y 4)))))),?_⟩
  have hI:=I.g.house;have dV:=I.ok.l4;refine ip hI T.az T.dO rfl rfl ⟨Z.G .ci,rfl,.inl ⟨_,.inl I.g.cams⟩,U rfl ⟨ls rfl,λl0 c3=>?_⟩⟩;have s0:=aj (o:=.lst []) (am.refl H) c3;have e0:aA H l0 (.lst []) l0=some (.lst []):=ae;generalize aA H l0 (.lst [])=H1 at s0 e0⊢;refine⟨bp Z.cv (.inr g),dG.k (k:=.inr g) (s0 _ _ I.g.cams),?_⟩;obtain⟨ll,J,X,ev,ba,hw,d1⟩:∃ll J X,(bp Z.cv (.inr g)).getD (.ref l0)=.ref ll/\H1 ll=some (.lst J)/\iH K H1 J X/\X.length<=630:=by
   rcases I.g.came.find g with e|⟨l,us,ss,e,_,h2,h3,h4⟩
   ·exact⟨l0,[],[],by rw[e];rfl,e0,.nil,by simp⟩
   ·have:=I.ok.cm _ h4;have:ss.length<=10*c:=this;exact⟨l,us,ss,by rw[e];rfl,s0 _ _ h2,h3.kp (.of s0),by lia⟩
  rw[ev];have d2:J.length=X.length:=Paired.length hw;refine⟨ll,rfl,⟨_,aX.of ba⟩,λD hD=>?_⟩;refine rJ (K:=K) (a:=ll) (xs:=J) (λk S H'=>am H1 H'/\H' D=some (.lst S)/\∃(bs:Sc),S=bs.map V.str/\bs.length=k) ⟨aj (am.refl _) hD,ae,[],rfl,rfl⟩ (λk S H' _ h=>aX.of (h.1 _ _ ba)) ?_ ?_
  ·rintro k v S H3 hv⟨s3,aa,bs,rfl,bb⟩;have hk:k<J.length:=(d_.mp hv).1;obtain⟨y,s,rfl,B⟩:=hw.get k v hv;refine aq (j3 (bD (U rfl (rX (am.tseq s3 B) (ao (k:=0) rfl) ⟨aa,by rw[c_,lm];lia,lf hk ⟨bR s3 hD,ae,bs++[y.1],by rw[k_];rfl,by rw[kt,bb];rfl⟩⟩))))
  rintro S H2⟨s2,a0,bs,rfl,bb⟩;refine aq ⟨ls rfl,λR a2=>aq ?_⟩;have s3:=aj (o:=.lst []) (am.refl H2) a2;have bc:aA H2 R (.lst []) R=some (.lst []):=ae;have aa:=s3 _ _ a0;have bi:H D=none:=s0.free hD;have a3:H R=none:=s0.free (s2.free a2);have bj:D≠R:=λz=>by rw[z,a2]at a0;cases a0
  have ad:am H (aA H2 R (.lst [])):=(s0.trans s2).trans s3;generalize aA H2 R (.lst [])=H3 at s3 bc aa ad⊢;refine ip (ad _ _ hI) T.az T.aN rfl rfl ⟨Z.G .ln,U rfl ⟨ad _ _ I.g.lays,λep=>?_⟩⟩;have bl:Z.G .ln≠D:=λz=>by have e:=I.g.lays;rw[z,bi]at e;cases e
  have a5:Z.G .ln≠R:=λz=>by have e:=I.g.lays;rw[z,a3]at e;cases e
  refine Ib (n:=M.las.length) (λk σ H'=>(∀b o,H b=some o->b≠Z.G .ln->H' b=some o)/\H' (Z.G .ln)=some (dE P w (Z.G .ln) (jV (M.las.map cR.nm) λi=>.ref (Z.G (.lo i))) ep)/\(∃bs:List Str,H' D=some (.lst (bs.map V.str))/\bs.length<=630+k)/\(∃us,H' R=some (.lst us)/\yi K H' M us/\us.length<=k)/\∃v5 v6 v7,σ=[some (.ref (Z.G .hh)),some (.str g),some mv,some (.ref D),some (.ref R),v5,v6,v7]) ⟨λb o e n=>by rw[ak n];exact ad b o e,ae,⟨bs,by rw[ak (pv bl)];exact aa,by lia⟩,⟨[],by rw[ak (pv a5)];exact bc,λu hu=>(nomatch hu),f_ _⟩,_,_,_,rfl⟩ (λk σ H' hk h=>⟨h.2.1,by rw[iW,c_];exact hk⟩) ?_ ?_
  ·rintro k σ H4 x H5 hk⟨f4,f,⟨j,bt,a6⟩,⟨W,a7,p,ap⟩,v5,v6,v7,rfl⟩⟨T1,kk,vv,c4,rfl,rfl,bv⟩;obtain⟨l,hl⟩:∃l,M.las[k]?=some l:=⟨_,h_ hk⟩;rw[yN,j_,hl]at bv;obtain⟨rfl,rfl⟩:=QB (m_ bv);have s5:=aj (o:=.tup [kV (.inr l.nm),.ref (Z.G (.lo k))]) (am.refl H4) c4;have e5:aA H4 T1 (.tup [kV (.inr l.nm),.ref (Z.G (.lo k))]) T1=some (.tup [.str l.nm,.ref (Z.G (.lo k))]):=ae;generalize aA H4 T1 (.tup [kV (.inr l.nm),.ref (Z.G (.lo k))])=H5 at s5 e5⊢;have L:tT P w K a H H5 M Z c:=⟨I,λb o e n=>s5 _ _ (f4 b o e n)⟩;refine⟨T1,U rfl ⟨aW.of e5,rfl,_,U rfl (aq ⟨_,U rfl (aq ⟨rfl,?_⟩)⟩)⟩⟩;have da:=L.at_ (r:=.lo k) (by simp only[cont,hl];rfl) (by simp);have bz:=L.at_ (r:=.iu k) (by simp only[cont,hl];rfl) (by simp);refine ip da T.bJ T.cj rfl rfl ⟨Z.G (.iu k),rfl,.inl ⟨_,.inl bz⟩,U rfl ⟨bp (Z.iv k) (.inr g),dG.k (k:=.inr g) bz,aq ?_⟩⟩;have bN:=s5 _ _ bt;have dc:=s5 _ _ a7;refine U rfl ⟨rfl,U rfl (LC (λσ H'=>am H5 H'/\∃sv,σ=[some (.ref (Z.G .hh)),some (.str g),some mv,some (.ref D),some (.ref R),some (.str l.nm),some (.ref (Z.G (.lo k))),some sv]/\(sv=.non\/∃s t y,sv=.ref s/\aW K H' s [.str t,.str y])) ?_ ?_)⟩
   ·rintro σ H6⟨s6,sv,rfl,di⟩;have al:=s6 _ _ bN;have b0:=s6 _ _ dc;have as:=s6 _ _ (s5 _ _ f);have f6:∀b o,H b=some o->b≠Z.G .ln->H6 b=some o:=λb o e n=>s6 _ _ (s5 _ _ (f4 b o e n));rcases di with rfl|⟨s,t,y,rfl,B⟩
    ·exact U rfl ⟨rfl,U rfl (bV ⟨f6,as,⟨j,al,by exact sg a6⟩,⟨W,b0,p.kp (.of (s5.trans s6)),by exact sg ap⟩,_,_,_,rfl⟩)⟩
    refine U rfl ⟨rfl,U rfl (bD (U rfl ⟨.inl ⟨rfl,_,aX.of al⟩,U rfl (rX B (ao (k:=0) rfl) (rA al (by rw[c_,lm];lia) ?_))⟩))⟩;have a8:Kp H6 (aA H6 D (.lst (j.map V.str++[.str t]))):=.lst al;have f7:∀b o,H6 b=some o->b≠D->aA H6 D (.lst (j.map V.str++[.str t])) b=some o:=cA;have b8:aA H6 D (.lst (j.map V.str++[.str t])) D=some (.lst ((j++[t]).map V.str)):=by rw[ae,k_];rfl
    generalize aA H6 D (.lst (j.map V.str++[.str t]))=H7 at a8 f7 b8⊢;have b9:=f7 _ _ b0 (pv bj);have cc:=f7 _ _ as bl;refine U rfl ⟨.inl ⟨rfl,_,aX.of b9⟩,U rfl ⟨ls rfl,λT2 cF=>(U rfl ⟨T2,s,[.str l.nm],U rfl ⟨rfl,aW.of ae,am.tseq (aj (am.refl _) cF) (a8.tq B),by simp,by rw[lm];simp,λz=>(nomatch z),λ_ T3 dt=>?_⟩⟩)⟩⟩;have s9:=aj (o:=.tup ([.str l.nm]++[.str t,.str y])) (aj (o:=.tup [.str l.nm]) (am.refl H7) cF) dt;have e9:aA (aA H7 T2 (.tup [.str l.nm])) T3 (.tup ([.str l.nm]++[.str t,.str y])) T3=some (.tup [.str l.nm,.str t,.str y]):=ae;generalize aA (aA H7 T2 (.tup [.str l.nm])) T3 (.tup ([.str l.nm]++[.str t,.str y]))=H9 at s9 e9⊢;have c0:=s9 _ _ b9;refine rA c0 (by rw[lm];lia) ?_;have kp:Kp H9 (aA H9 R (.lst (W++[.ref T3]))):=.lst c0;refine⟨λb o e n=>by rw[ak (aD e a3)];exact s9 _ _ (f7 _ _ (f6 b o e n) (aD e bi)),by rw[ak a5];exact s9 _ _ cc,⟨j++[t],by rw[ak bj];exact s9 _ _ b8,by rw[kt];simp;exact wr a6⟩,⟨W++[.ref T3],ae,λu hu=>?_,by rw[kt];simp;omega⟩,_,_,_,rfl⟩;rcases List.mem_append.mp hu with z|z
    ·obtain⟨b,i,l',t',y',h1,h2,h3⟩:=p u z;exact⟨b,i,l',t',y',h1,kp.tq (am.tseq s9 (a8.tq (am.tseq (s5.trans s6) h2))),h3⟩
    ·rw[List.mem_singleton.mp z];exact⟨T3,k,l,t,y,rfl,kp.tq (aW.of e9),hl⟩
   ·intro N hN
    by_cases c1:g∈l.ins.map (·.1)
    ·obtain⟨x,hx,ex⟩:=nk.mp c1;obtain⟨s,hv,B⟩:=(I.g.seats k l hl).find (I.ok.la l (i_ hl)).nd x hx;rw[ex]at hv;rw[hv];exact bV (hN _ _ ⟨am.refl _,U rfl (.inr ⟨s,x.2.1,x.2.2,rfl,L.kp.tq B⟩)⟩)
    ·rw[(I.g.seats k l hl).none c1];have dv:=L.at_ (r:=.hh) rfl (by simp);refine bD (nh dv rfl rfl (U rfl (U rfl (U rfl (U rfl ⟨H,M,Z,c,k,l,g,mv,ms,D,j,rfl,L,hl,hg,hm.kp L.kp,c2,bN,λH' s'=>aq (hN _ _ ⟨s',U rfl (.inl rfl)⟩),λs t y H' s' B _ _=>aq (hN _ _ ⟨s',U rfl (.inr ⟨s,_,U rfl B⟩)⟩)⟩)))))
  ·rintro σ H4⟨f4,f,⟨j,bt,a6⟩,⟨W,a7,p,ap⟩,v5,v6,v7,rfl⟩;refine⟨⟨f,by rw[iW,c_];exact f_ _⟩,Z.G .ln,_,ep,f,?_⟩;have sF:am H (aA H4 (Z.G .ln) (.dK (jV (M.las.map cR.nm) λi=>.ref (Z.G (.lo i))))):=λb o e=>by
    by_cases z:b=Z.G .ln
    ·rw[z,I.g.lays]at e;rw[z,ae];exact e
    ·rw[ak z];exact f4 b o e z
   have kp:Kp H4 (aA H4 (Z.G .ln) (.dK (jV (M.las.map cR.nm) λi=>.ref (Z.G (.lo i))))):=⟨λu xs e=>by rw[ak λz=>by rw[z,f]at e;cases e];exact e,λu o⟨o',e⟩=>⟨o',by rw[ak λz=>by rw[z,f]at e;cases e];exact e⟩⟩;exact U rfl (q R W _ sF a3 (by rw[ak (pv a5)];exact a7) (p.kp kp) (by lia))
end
def wz(cm:List (Str×List (Str×Str)))(g:Str)(c:List (Str×Str)):List (Str×List (Str×Str)):=if(cm.any λx=>decide (x.1=g))=true then cm.map (λx=>if x.1=g then(x.1,c)else x)else cm++[(g,c)]
def GL:(wz cm g ss).length<=cm.length+1:=by
 unfold wz
 split
 ·rw[c_];lia
 ·rw[kt];exact f_ _
def GJ(h:x∈wz cm g c):x∈cm\/x.2=c:=by
 unfold wz at h
 split at h
 ·obtain⟨y,b,e⟩:=nk.mp h
  split at e
  ·rw[<-e];exact .inr rfl
  ·rw[<-e];exact .inl b
 ·rcases List.mem_append.mp h with q|q
  ·exact .inl q
  ·rw[List.mem_singleton.mp q];exact .inr rfl
theorem eB.any(g:Str)(h:eB K H dl cv cm):(cv.any λx=>decide (x.1=.inr g))=cm.any λx=>decide (x.1=g):=by induction h with|nil=>rfl|@cons _ y _ _ h _ b=>
  rw[D_,D_,b,h.1]
  congr 1
  by_cases e:y.1=g
  ·rw[nn e,nn (by rw[e])]
  ·rw[no e,no λz=>e (sT z)]
def eB.put(n:l≠dl)(d:H l=some (.lst c))(f:iH K H c i)(h:eB K H dl cv cm):eB K H dl (eY cv (.inr g) (.ref l)) (wz cm g i):=by
 unfold eY wz;rw[h.any g]
 split
 ·rename_i j;clear j
  induction h with|nil=>exact .nil|@cons x y _ _ q r k=>
   refine .cons ?_ k;obtain⟨h1,q⟩:=q
   by_cases e:y.1=g
   ·have b:x.1=.inr g:=by rw[h1,e]
    dsimp only;rw[kw b,kw e];exact⟨h1,l,c,rfl,n,d,f⟩
   ·have b:¬x.1=.inr g:=λz=>e (by rw[h1]at z;exact sT z);dsimp only;rw[ku b,ku e];exact⟨h1,q⟩
 ·exact Paired.snoc h ⟨rfl,l,c,rfl,n,d,f⟩
def GM{cv:List (cg×V)}{k:cg}{v:V}{x:cg×V}(h:x∈eY cv k v):x∈cv\/x.2=v:=by
 unfold eY at h
 split at h
 ·obtain⟨y,b,e⟩:=nk.mp h
  split at e
  ·rw[<-e];exact .inr rfl
  ·rw[<-e];exact .inl b
 ·rcases List.mem_append.mp h with q|q
  ·exact .inl q
  ·rw[List.mem_singleton.mp q];exact .inr rfl
def ca.some(h:ca K H iv ins)(hg:g∈ins.map (·.1)):(bp iv (.inr g)).isSome=true:=by induction h with|nil=>cases hg|@cons _ y _ _ h _ b=>
  by_cases e:y.1=g
  ·rw[cz (by rw[h.1,e])];rfl
  ·rw[bK (λz=>e (by rw[h.1]at z;exact sT z))];rw[oD]at hg;exact b ((pw.mp hg).resolve_left λq=>e q.symm)
def LI(g:Str)(ins c:List (Str×Str×Str)):Prop:=c=ins\/(g∉ins.map (·.1)/\∃t y,c=ins++[(g,t,y)])
structure k6(g:Str)(M M':cy):Prop where
 p:M'.p=M.p
 salt:M'.salt=M.salt
 trs:M'.trs=M.trs
 len:M'.las.length=M.las.length
 las:∀(i:Nat)(l:cR),M.las[i]?=some l->∃ins',M'.las[i]?=some {l with ins:=ins'}/\LI g l.ins ins'
def k6.refl(g:Str)(M:cy):k6 g M M:=⟨rfl,rfl,rfl,rfl,λi l b=>⟨l.ins,b,.inl rfl⟩⟩
def k6.names(h:k6 g M c):c.las.map cR.nm=M.las.map cR.nm:=by
 refine y2 λi=>?_;rw[j_,j_]
 by_cases hi:i<M.las.length
 ·obtain⟨b,e,_⟩:=h.las i _ (h_ hi);rw[e,h_ hi];rfl
 ·rw[pa (by rw[h.len];exact Qt hi),pa (by exact Qt hi)]
def nM.vis(h:nM M c)(v:k6 g M j)(hg:DX g)(h1:∀x∈j.came,x.2.length<=10*c+4)(h2:j.came.length<=10*c+4):nM j (c+1):=by
 have m:=v.names;refine⟨by rw[v.p];exact h.p,by rw[m];exact h.ln,by rw[v.trs];exact h.tn,λl o=>?_,λt b=>?_,λx d=>by have:=h1 x d;lia,by rw[v.len];exact h.l4,by rw[v.trs];exact h.tc,by lia,λt b=>by rw[v.trs]at b;exact sg (h.br t b)⟩
 ·obtain⟨i,hi⟩:=m3.mp o;have f:i<M.las.length:=by rw[<-v.len];exact(d_.mp hi).1
  obtain⟨n,e,q⟩:=v.las i _ (h_ f);rw[hi]at e;have e:=m_ e;have k:=h.la _ (Qx f);rw[e];have own:∀k z,z∈(M.las[i]).S.pl k->k=aZ "" ""\/∃t∈j.trs,t.home=(M.las[i]).nm/\∃y∈t.arms,k=aZ t.nm y:=by rw[v.trs];exact k.own
  rcases q with rfl|⟨hn,t,y,rfl⟩
  ·exact⟨k.wd,by rw[v.p];exact k.sl,by rw[v.p];exact k.ok,sg k.len,k.gs,k.nd,own⟩
  ·refine⟨k.wd,by rw[v.p];exact k.sl,by rw[v.p];exact k.ok,by show(_++[_]).length<=c+1;rw[kt];exact wr k.len,λx d=>?_,?_,own⟩
   ·rcases List.mem_append.mp d with q|q
    ·exact k.gs x q
    ·rw[List.mem_singleton.mp q];exact hg
   ·show((_++[(g,t,y)]).map (·.1)).Nodup;rw[k_,rr];exact⟨k.nd,by simp,λx d z r e=>hn (by rw[<-show z=g from List.mem_singleton.mp r,<-e];exact d)⟩
 ·rw[v.trs]at b;have k:=h.tr t b;exact{k with hm:=by rw[m];exact k.hm}
def k6.step{g:Str}{M d:cy}(v:k6 g M d){i:Nat}{l:cR}{c:List (Str×Str×Str)}{t y:Str}{cm:List (Str×List (Str×Str))}(h:M.las[i]?=some l)(f:d.las[i]?=some {l with ins:=c})(hi:LI g l.ins c)(hn:g∉c.map (·.1)):k6 g M {d.setL i {l with ins:=c++[(g,t,y)]}with came:=cm}:=by
 have e:c=l.ins:=by
  rcases hi with e|⟨_,t,y,e⟩
  ·exact e
  ·exact absurd (by rw[e,k_];exact qc _ mm) hn
 refine⟨v.p,v.salt,v.trs,by rw[<-v.len];exact u_ ..,λj k h2=>?_⟩
 by_cases q:j=i
 ·subst q;rw[h]at h2;cases h2;exact⟨_,ux f,.inr ⟨by rw[<-e];exact hn,t,y,by rw[e]⟩⟩
 ·obtain⟨b,m,n⟩:=v.las j k h2;exact⟨b,by show(d.las.set i _)[j]?=_;rw[ry λz=>q z.symm];exact m,n⟩
inductive Ju(P:Sb)(w:World)(K:R7)(a:iK)(vs:List V)(H:Hp)(Q:VK)(E:XK):Prop|mk(M:cy)(Z:ZS)(c:Nat)(g:Str)(mv:V)(ms:List (Str×Int))(_:vs=[.ref (Z.G .hh),.str g,mv])(_:cE P w K a H M Z c)(_:c<=63)(_:DX g)(_:tS K H ms mv)(_:ms.length<=8)(_:∀(r:Addr)(us:List V)(M':cy)(Z':ZS)(H':Hp),k6 g M M'->gu H M Z H' M' Z'->cE P w K a H' M' Z' (c+1)->H r=none->H' r=some (.lst us)->Z'.ds=Z.ds->Q (.ref r) H')
section
def pz(T:Txt K mg a):aO P w K mg base dk 10 a.cT.x a.cT.d ["self","guest","marks"] (Ju P w K a):=by
 refine T.cT.ok cG λey A outer s H vs Q E hr h=>?_
 ·obtain⟨M,Z,c,g,mv,ms,rfl,S,hc,hg,hm,d3,q⟩:=h;refine⟨_,(ag (bg 3 cG.nd (bo (Y 0) T.az T.cf.m ((mw (P:=P) (w:=w) T).mono (by decide)) hr T.cf.b .nil bh (ac (Y 1) (ac (Y 2) O)))) (ag (dy o_ rfl (d8 K rfl (Y 3)) (ij K rfl rfl (bL (qK 4 cG.nd) (bL (qK 5 cG.nd) (bL (qK 6 cG.nd) ii)))) (ag (bg 7 cG.nd (dL (ck hr) (aG K rfl (Y 0)) (Y 4) (λ_ _=>rfl))) (ah (aJ (oB (qM (ck hr) (Y 1) (aG K rfl (Y 7))) rfl) (ag (ki (bO (ac (Y 5) (ac (Y 6) O))) (kj (aG K rfl (Y 7)) (Y 1) (qC (ck hr)))) (ah (ki (av yJ (Ax (ck hr) (aG K rfl (Y 0)) (Y 1) (bn O) ⟨rfl,rfl,rfl,rfl⟩) (bn (ac (bO (ac (Y 5) (ac (Y 6) O))) O))) (kj (aG K rfl (Y 0)) (Y 1) (qC (ck hr)))))) aC)))) (ah (ax (Y 3))))),?_⟩
  refine nh S.g.house rfl rfl (U rfl (U rfl ⟨M,Z,c,g,mv,ms,rfl,S,hc,hg,hm,d3,λr us H1 s1 hr b0 b8 ez=>aq ?_⟩));have d4:¬jI M Z r:=S.g.foot hr;refine U rfl ⟨r,rfl,⟨_,aX.of b0⟩,?_⟩;refine gn (xs:=us) (λk σ H'=>Li λM' Z'=>P8 (k6 g M M') (bA P w K a H' M' Z') (Z'.tk=Z.tk) (Z'.ow=Z.ow) (Z'.ds=Z.ds) ((∀x∈M'.came,x.2.length<=10*c+k)) (M'.came.length<=10*c+k) (gu H M Z H' M' Z') (¬jI M' Z' r) (H' r=some (.lst us)) (yi K H' M us) (Ex4 λv4 v5 v6 v7=>σ=[some (.ref (Z.G .hh)),some (.str g),some mv,some (.ref r),v4,v5,v6,v7])) ⟨M,Z,k6.refl g M,S.g.same s1,rfl,rfl,rfl,S.ok.cm,S.ok.cl,gu.of s1,d4,b0,b8,_,_,_,_,rfl⟩ (λk σ H' _ h=>by obtain⟨_,_,_,_,_,_,_,_,_,_,_,h,_⟩:=h;exact aX.of h) ?_ ?_
  ·rintro k v σ H2 hv⟨M2,f,v2,D,a5,a6,W,X,ba,aa,ad,al,F,v4,v5,v6,v7,rfl⟩;have hk:k<us.length:=(d_.mp hv).1;obtain⟨b,i,l,t,y,rfl,hb,hl⟩:=F v (i_ hv);refine⟨b,U rfl ⟨hb,rfl,_,U rfl (aq ⟨_,U rfl (aq ⟨_,U rfl (aq ⟨rfl,?_⟩)⟩)⟩)⟩⟩;obtain⟨p,I,b9⟩:=v2.las i l hl;have cc:f.G .hh=Z.G .hh:=aa.hh;have cF:=D.house;have c0:=D.lays;have c1:bp (jV (M2.las.map cR.nm) λi=>V.ref (f.G (.lo i))) (.inr l.nm)=some (.ref (f.G (.lo i))):=tZ (by rw[v2.names];exact S.ok.ln) (by rw[j_,I];rfl);rw[cc]at cF;refine ip cF T.az T.aN rfl rfl (U rfl (rG (.ref (f.G (.lo i))) (by rw[<-c1];exact dG.k (k:=.inr l.nm) c0) (aq ?_)));have c2:=D.layer I;have c3:=D.inside I;refine U rfl (ip c2 T.bJ T.cj rfl rfl (rG (bp (f.iv i) (.inr g)) (dG.k (k:=.inr g) c3) (U rfl ?_)));have bb:=D.seats i _ I
   by_cases bc:g∈p.map (·.1)
   ·rw[bb.some bc];exact bV ⟨M2,f,v2,D,a5,a6,W,λx hx=>by have:=X x hx;exact sg this,by exact sg ba,aa,ad,al,F,_,_,_,_,rfl⟩
   ·have an:=bb.none bc;rw[an];refine bD (U rfl (U rfl ⟨ls rfl,λR d5=>?_⟩));have s3:=aj (o:=.tup [.str t,.str y]) (am.refl H2) d5;have e3:aA H2 R (.tup [.str t,.str y]) R=some (.tup [.str t,.str y]):=ae;generalize aA H2 R (.tup [.str t,.str y])=H3 at s3 e3⊢;have bi:=D.same s3;have eG:(f.iv i).length<=100:=by
     rw[bb.len];show p.length<=100;have:=(S.ok.la l (i_ hl)).len;rcases b9 with e|⟨_,_,_,e⟩
     ·rw[e];lia
     ·rw[e,kt];simp;lia
    refine ip (s3 _ _ c2) T.bJ T.cj rfl rfl (U rfl ⟨f.G (.iu i),_,.inr g,rfl,rfl,s3 _ _ c3,by rw[lm];lia,?_⟩);rw[pi _ an];have J:bA P w K a (aA H3 (f.G (.iu i)) (.dK (f.iv i++[(.inr g,.ref R)]))) (M2.setL i {l with ins:=p++[(g,t,y)]}) {f with iv:=λj=>if j=i then f.iv i++[(.inr g,.ref R)]else f.iv j}:=bi.setIns (iv':=f.iv i++[(.inr g,.ref R)]) (ins':=p++[(g,t,y)]) I (Paired.snoc (bi.seats i _ I) ⟨rfl,R,rfl,aW.of e3⟩);have c4:=(d_.mp I).1;have ap:gu H3 M2 f (aA H3 (f.G (.iu i)) (.dK (f.iv i++[(.inr g,.ref R)]))) (M2.setL i {l with ins:=p++[(g,t,y)]}) {f with iv:=λj=>if j=i then f.iv i++[(.inr g,.ref R)]else f.iv j}:=gu.put (show i<_ from c4) rfl (u_ ..) rfl rfl λx hx=>.inl hx;have bj:=bi.imm (r:=.iu i) (by simp only[cont,I];rfl) (cA (o':=.dK (f.iv i++[(.inr g,.ref R)])));have bl:=cA (x:=f.G (.iu i)) (o':=.dK (f.iv i++[(.inr g,.ref R)])) _ _ (s3 _ _ al) λz=>ad (.inl ⟨.iu i,c4,z⟩);have bt:¬jI (M2.setL i {l with ins:=p++[(g,t,y)]}) {f with iv:=λj=>if j=i then f.iv i++[(.inr g,.ref R)]else f.iv j} r:=λz=>(ap.fp r z).elim ad λz=>by rw[s3 _ _ al]at z;cases z
    have ea:=bj.kp.tq (K:=K) (aW.of e3);have as:=(F.kp (.of s3)).kp bj.kp;generalize da:M2.setL i {l with ins:=p++[(g,t,y)]}=M4 at J ap bt;generalize a0:({f with iv:=λj=>if j=i then f.iv i++[(.inr g,.ref R)]else f.iv j}:ZS)=B at J ap bt;have a2:B.G=f.G:=by rw[<-a0]
    have er:B.cv=f.cv:=by rw[<-a0]
    have dc:B.tk=f.tk:=by rw[<-a0]
    have di:B.ow=f.ow:=by rw[<-a0]
    have dt:B.ds=f.ds:=by rw[<-a0]
    have L:M4.came=M2.came:=by rw[<-da]
    generalize aA H3 (f.G (.iu i)) (.dK (f.iv i++[(.inr g,.ref R)]))=H4 at J ap bj bl ea as⊢;have bv:=J.house;rw[a2,cc]at bv;have a7:=J.cams;rw[a2]at a7;refine ip bv T.az T.dO rfl rfl ⟨f.G .ci,rfl,.inl ⟨_,.inl a7⟩,U rfl ⟨ls rfl,λl0 eb=>?_⟩⟩;have s5:=aj (o:=.lst []) (am.refl H4) eb;have e5:aA H4 l0 (.lst []) l0=some (.lst []):=ae;generalize aA H4 l0 (.lst [])=H5 at s5 e5⊢;refine⟨bp B.cv (.inr g),dG.k (k:=.inr g) (s5 _ _ a7),_,rfl,U rfl ⟨ls rfl,λN ec=>⟨ls rfl,λl1 dv=>?_⟩⟩⟩;have s7:=aj (o:=.lst [.ref N]) (aj (o:=.tup [.str t,.str y]) (am.refl H5) ec) dv;have e7:aA (aA H5 N (.tup [.str t,.str y])) l1 (.lst [.ref N]) l1=some (.lst [.ref N]):=ae;have e6:aA (aA H5 N (.tup [.str t,.str y])) l1 (.lst [.ref N]) N=some (.tup [.str t,.str y]):=by rw[ak (aD ae dv)];exact ae
    generalize aA (aA H5 N (.tup [.str t,.str y])) l1 (.lst [.ref N])=H7 at s7 e6 e7⊢;have a8:=s5.trans s7;obtain⟨ll,u,C,ev,ed,dT,ef⟩:∃ll u C,(bp B.cv (.inr g)).getD (.ref l0)=.ref ll/\H7 ll=some (.lst u)/\iH K H7 u C/\C.length<=10*c+k:=by
     rcases J.came.find g with e|⟨ei,ej,ek,e,_,h2,h3,h4⟩
     ·exact⟨l0,[],[],by rw[e];rfl,s7 _ _ e5,.nil,by simp⟩
     ·rw[L]at h4;have:=X _ h4;exact⟨ei,ej,ek,by rw[e];rfl,a8 _ _ h2,h3.kp (.of a8),this⟩
    have es:u.length=C.length:=Paired.length dT;rw[ev];refine⟨ll,l1,u,[.ref N],rfl,rfl,ed,e7,by rw[lm];simp;lia,λlp bz=>?_⟩;have s8:=aj (o:=.lst (u++[.ref N])) a8 bz;have e8:aA H7 lp (.lst (u++[.ref N])) lp=some (.lst (u++[.ref N])):=ae;have dV:iH K (aA H7 lp (.lst (u++[.ref N]))) (u++[.ref N]) (C++[(t,y)]):=iH.kp (Kp.new bz) (Paired.snoc dT ⟨N,rfl,aW.of e6⟩);have a3:H4 lp=none:=a8.free bz;generalize aA H7 lp (.lst (u++[.ref N]))=H8 at s8 e8 dV⊢;have bN:=J.same s8;have ew:B.cv.length<=10*c+k:=by have:=Paired.length J.came;rw[this,L];exact ba
    refine ip (s8 _ _ bv) T.az T.dO rfl rfl (U rfl ⟨f.G .ci,_,.inr g,rfl,rfl,s8 _ _ a7,by rw[lm];lia,?_⟩);have el:lp≠B.G .dl:=λz=>by rw[z,J.dees]at a3;cases a3
    have en:bA P w K a (aA H8 (f.G .ci) (.dK (eY B.cv (.inr g) (.ref lp)))) {M4 with came:=wz M4.came g (C++[(t,y)])} {B with cv:=eY B.cv (.inr g) (.ref lp)}:=by rw[show f.G .ci=B.G .ci by rw[a2]];exact bN.setCame (bN.came.put (g:=g) el e8 dV)
    have d1:=bN.imm (r:=.ci) rfl (cA (o':=.dK (eY B.cv (.inr g) (.ref lp))));rw[a2]at d1;have d2:gu H4 M4 B (aA H8 (f.G .ci) (.dK (eY B.cv (.inr g) (.ref lp)))) {M4 with came:=wz M4.came g (C++[(t,y)])} {B with cv:=eY B.cv (.inr g) (.ref lp)}:=by
     refine⟨rfl,λb o e n=>by rw[ak λz=>n (.inl ⟨.ci,trivial,by rw[a2];exact z⟩)];exact s8 b o e,λb z=>?_,λb z=>s8.free (mx z),rfl⟩;rcases z with z|z|⟨x,hx,e⟩
     ·exact .inl (.inl z)
     ·exact .inl (.inr (.inl z))
     ·rcases GM hx with q|q
      ·exact .inl (.inr (.inr ⟨x,q,e⟩))
      ·rw[q]at e;cases e;exact .inr a3
    have v9:k6 g M {M4 with came:=wz M4.came g (C++[(t,y)])}:=by rw[<-da];exact v2.step hl I b9 bc
    have eo:=(aa.trans (gu.of s3)).trans (ap.trans d2);have ep:aA H8 (f.G .ci) (.dK (eY B.cv (.inr g) (.ref lp))) r=some (.lst us):=by rw[ak λz=>ad (.inl ⟨.ci,trivial,z⟩)];exact s8 _ _ bl
    refine⟨_,{B with cv:=eY B.cv (.inr g) (.ref lp)},v9,en,dc.trans a5,di.trans a6,dt.trans W,λx hx=>?_,?_,eo,λz=>(d2.fp r z).elim bt (λz=>by rw[bl]at z;cases z),ep,(as.kp (.of s8)).kp d1.kp,_,_,_,_,rfl⟩
    ·rcases GJ hx with q|q
     ·rw[L]at q;have:=X x q;exact sg this
     ·rw[q,kt];simp;exact wr ef
    ·have:=GL (cm:=M4.came) (g:=g) (ss:=C++[(t,y)]);rw[L]at this;show(wz M4.came g (C++[(t,y)])).length<=_;rw[L];lia
  ·rintro σ H2⟨M2,f,v2,D,a5,a6,W,X,ba,aa,ad,al,F,v4,v5,v6,v7,rfl⟩;exact U rfl (q r us M2 f H2 v2 aa ⟨D,S.ok.vis v2 hg (λx hx=>by have:=X x hx;lia) (by lia),λj=>by rw[a5];have:=S.tk j;lia,λj=>by rw[a6];have:=S.ow j;lia,by rw[W];have:=S.ds;exact sg this⟩ hr al W)
end
inductive JQ(K:R7)(g:Addr)(vs:List V)(H:Hp)(Q:VK)(_E:XK):Prop|mk(d:Addr)(k:Str)(xs:List V)(_:vs=[.ref d])(_:aW K H d (.str k::xs))(_:(∃tk,PySem.W.nsIn K g k=some (some (.int ((xs.length:Int)+1) tk))))(_:Q .non H)
inductive Gn(K:R7)(vs:List V)(H:Hp)(Q:VK)(_E:XK):Prop|mk(t d:Addr)(l:Sc)(kvs:List (cg×V))(_:vs=[.ref t,.ref d])(_:aW K H t (l.map V.str))(_:H d=some (.dK kvs))(_:(∀x∈l,Wd x/\(bp kvs (.inr x)).isSome=true))(_:l.Nodup)(_:l.length<=8)(_:∀H',am H H'->Q .non H')
inductive Gm(P:Sb)(w:World)(K:R7)(a:iK)(vs:List V)(H:Hp)(Q:VK)(_E:XK):Prop|mk(z:Int)(M:cy)(Z:ZS)(_:vs=[.int z,.int M.p,.ref (Z.G .ln)])(_:bA P w K a H M Z)(_:M.las.length<=4)(_:0<=z)(_:z<=M.p)(_:z∉M.las.map cR.sl)(_:∀H',am H H'->Q .non H')
inductive Gj(K:R7)(vs:List V)(H:Hp)(Q:VK)(_E:XK):Prop|mk(d ly tr ar sh:Addr)(ru:V)(x y:Str)(r:Ru)(ws l ss:Sc)(lk tk:List (cg×V))(_:vs=[.ref d,.ref ly,.ref tr])(_:aW K H d [.str "trial",.str x,.str y,.ref ar,ru,.ref sh])(_:Wd x)(_:Wd y)(_:H ly=some (.dK lk))(_:H tr=some (.dK tk))(_:bp tk (.inr x)=none)(_:(bp lk (.inr y)).isSome=true)(_:aW K H ar (l.map V.str))(_:(∀w∈l,Wd w))(_:l.Nodup)(_:1<=l.length)(_:l.length<=4)(_:ff K H r ru)(_:r.hgt<=6)(_:r.cnt<=30)(_:kx ws r)(_:(∀w∈ws,Wd w))(_:ws.length<=3)(_:aW K H sh (ss.map V.str))(_:(∀x∈ss,Wd x/\(bp tk (.inr x)).isSome=true))(_:ss.Nodup)(_:ss.length<=8)(_:∀H',am H H'->Q .non H')
section
def wD(T:Txt K mg a)(f:w.params=a.pm):aO P w K mg base dk 1 a.gK.x a.gK.d ["deed"] (JQ K a.fg):=by
 refine T.gK.ok wu λg A outer s H j Q E l h=>?_
 ·obtain⟨d,k,c,rfl,b,⟨tk,i⟩,q⟩:=h;refine⟨_,(ag (aJ (PW.pt (eC (bT (aM K rfl (ay (eS K rfl) (by rfl) T.bx L2.aV (ac (Y 0) (ac (jP rfl T.eF L2.bZ) O))) (λ_=>rfl))) (db (aE aS (ay (aH K rfl) (by rfl) T.bE L2.aI (ac (Y 0) O)) af (aF _))))) (ah cn) aC) (ah (aJ (PW.pt (eC (bT (aM K rfl (ay (i3 K rfl) (by rfl) T.bx L2.aV (ac (df K (Y 0) af) (ac (jP rfl T.Lq L2.Bz) O))) (λ_=>rfl))) (db (aE GV (Kc K rfl (PK f T.CS) rfl T.ET (df K (Y 0) af) ⟨rfl,rfl,rfl,rfl⟩) (ay (aH K rfl) (by rfl) T.bE L2.aI (ac (Y 0) O)) (aF _))))) (ah cn) aC))),?_⟩
  refine U rfl ⟨_,"tuple",_,true,rfl,.inr ⟨d,U rfl ⟨b,rfl⟩⟩,de (by decide+kernel),true,rfl,bV ?_⟩;refine U rfl ⟨_,U rfl ⟨.inr ⟨_,b,rfl⟩,rfl,U rfl (kS (λh=>absurd h (by rw[ol];lia)) (λ_=>?_))⟩⟩;refine U rfl (rX b (ao (k:=0) rfl) ?_);refine⟨_,"str",_,true,rfl,.str k,de (by decide+kernel),true,rfl,bV ?_⟩;refine U rfl (rX b (ao (k:=0) rfl) ⟨k,U rfl ⟨i,.inr ⟨_,.int ((c.length:Int)+1),rfl,⟨tk,rfl⟩,?_⟩⟩⟩);refine U rfl ⟨_,U rfl ⟨.inr ⟨_,b,rfl⟩,rfl,U rfl ?_⟩⟩;have e:decide (V.int ((c.length:Int)+1)=V.int (((V.str k::c).length:Nat):Int))=true:=nn (by simp);rw[e];exact q
def uX(T:Txt K mg a):aO P w K mg base dk 5 a.fN.x a.fN.d ["thing","trials"] (Gn K):=by
 refine T.fN.ok ja λW A outer s H vs Q E X h=>?_
 ·obtain⟨t,d,l,B,rfl,b,hd,Z,C,h8,q⟩:=h;refine⟨_,(ag (aJ (PW.pt (eC (bT (aM K rfl (ay (eS K rfl) (by rfl) T.bx L2.aV (ac (Y 0) (ac (jP rfl T.eF L2.bZ) O))) (λ_=>rfl))) (db (aE sf (ay (aH K rfl) (by rfl) T.bE L2.aI (ac (Y 0) O)) (cB T.zE rfl) (aF _))))) (ah cn) aC) (ah (dy o_ rfl (Kb K rfl rfl T.AT (ac (Y 0) O)) (ij K rfl rfl (bL (qK 2 ja.nd) (bL (qK 3 ja.nd) ii))) (ag (aR (pc T.bM (c7 T) X (ac (Y 3) (ac (Y 1) O)))) (ah (aJ (aE (qN K rfl) (Y 3) (gf (Dw K rfl) (Y 0) iS (iR (Y 2))) (by with_unfolding_all rfl)) (ah cn) aC)))))),?_⟩
  refine U rfl ⟨_,"tuple",_,true,rfl,.inr ⟨t,U rfl ⟨b,rfl⟩⟩,de (by decide+kernel),true,rfl,bV ?_⟩;refine U rfl ⟨_,l.length,rfl,.inr ⟨_,b,by simp⟩,_,U rfl ⟨rfl,U rfl (ko (λh=>absurd h (by lia)) (λ_=>?_))⟩⟩;refine U rfl ⟨t,U rfl ⟨b,?_⟩⟩;refine Ib (n:=l.length) (λk j H'=>am H H'/\(Li λD F=>j=[some (.ref t),some (.ref d),D,F])) ⟨am.refl H,_,_,rfl⟩ (λk j H' L h=>⟨_,.str l[k],am.tseq h.1 b,by rw[j_,h_ L];rfl⟩) ?_ ?_
  ·rintro k j m v H2 L⟨c,D,F,rfl⟩⟨r,x,G,rfl,rfl,y⟩;have y:=y _ (am.tseq c b);rw[j_]at y;obtain⟨z,M,rfl⟩:=Option.map_eq_some_iff.mp y;have I:=aj (o:=.tup [.int k,.str z]) c G;have N:aA m r (.tup [.int k,.str z]) r=some (.tup [.int k,.str z]):=ae;generalize aA m r (.tup [.int k,.str z])=H2 at I N⊢;refine⟨r,U rfl ⟨aW.of N,rfl,_,U rfl (aq ⟨_,U rfl (aq ⟨rfl,?_⟩)⟩)⟩⟩;have f:=Z z (i_ M);refine U rfl (U rfl ⟨z,d,B,rfl,f.1,I _ _ hd,f.2,λH3 s3=>?_⟩);have g:=I.trans s3;refine U rfl (U rfl (U rfl (U rfl ⟨t,U rfl ⟨am.tseq g b,?_,λp hp=>?_⟩⟩)))
   ·rintro⟨_,e⟩;rw[c_]at e;have e:(if(k:Int)<0 then((k:Int)+(l.length:Int)).toNat else min (k:Int).toNat l.length)=l.length:=e;rw[ku (by lia)]at e;lia
   ·rw[Dc _ (by lia)];refine⟨p,U rfl ⟨.inr (aW.of ae),rfl,?_,U rfl ?_⟩⟩
    ·rw[<-Rz];exact mO _
    ·rw[<-Rz];have J:z∉l.take (k:Int).toNat:=λh=>by have:=C;rw[<-vu k l,rr]at this;exact this.2.2 z (by simpa using h) z (i_ (i:=0) (by rw[RA,RI];exact M)) rfl
     have e:nj (.str z) ((l.take (k:Int).toNat).map V.str)=false:=by cases R:nj (.str z) ((l.take (k:Int).toNat).map V.str)with|false=>rfl|true=>unfold nj at R;obtain⟨v,hv,e⟩:=Q9.mp R;obtain⟨u,S,rfl⟩:=nk.mp hv;have e:(u==z)=true:=e;rw[eq_of_beq e]at S;exact absurd S J
     show if(if false=true then _ else nj (.str z) ((l.take (k:Int).toNat).map V.str))=true then _ else _
     rw[ku mo,e];exact bV ⟨(g.trans (aj (am.refl _) hp)),_,_,rfl⟩
  ·rintro j m⟨c,D,F,rfl⟩;exact⟨⟨_,am.tseq c b,by rw[c_]⟩,q m c⟩
def uW(T:Txt K mg a):aO P w K mg base dk 3 a.fM.x a.fM.d ["thing","prime","layers"] (Gm P w K a):=by
 refine T.fM.ok uA λN A outer s H W Q E R h=>?_
 ·obtain⟨z,M,Z,rfl,J,h4,h0,h1,hn,q⟩:=h;refine⟨_,(ag (aJ (PW.pt (eC (bT (aM K rfl (pc T.eM (fK T) R (ac (Y 0) O)) (λ_=>rfl))) (db (aE sf (Y 0) (Y 1) (aF _))))) (ah cn) aC) (ah (aJ (aE (qN K rfl) (Y 0) (GT (P:=P) (w:=w) (wc ky ["layer"] [] [3] (ai ib) (cw 3) (J8 (P:=P) (w:=w) (Y 2)) (λcl C s₀ H₀ ex=>⟨(qL ky ["layer"] 3),cr,(aG K rfl (Y 3))⟩))) (by with_unfolding_all rfl)) (ah cn) aC))),?_⟩
  refine U rfl ⟨z,rfl,h0,U rfl (bV ?_)⟩;refine U rfl (U rfl ⟨z,M.p,rfl,rfl,U rfl (ko (λh=>absurd h (by lia)) (λ_=>?_))⟩);have g:=J.lays;refine U rfl (U rfl ⟨Z.G .ln,U rfl ⟨g,λL=>?_⟩⟩);refineλD t=>?_;have nd:Z.G .ln≠D:=λz=>by rw[<-z,ae]at t;cases t
  have r:H D=none:=by rw[ak (pv nd)]at t;exact t
  refine zx (n:=M.las.length) (λk c u=>(∀b o,H b=some o->b≠Z.G .ln->u b=some o)/\u (Z.G .ln)=some (dE P w (Z.G .ln) (jV (M.las.map cR.nm) λi=>.ref (Z.G (.lo i))) L)/\u D=some (.lst c)/\c=((M.las.map cR.sl).take k).map V.int) ⟨λb o e n=>by rw[ak (aD e r),ak n];exact e,by rw[ak nd,ae],ae,rfl⟩ (λk c u v h=>⟨h.2.1,by rw[iW,c_];exact v⟩) ?_ ?_
  ·rintro k c S x X v⟨y,f,j,rfl⟩⟨rfl,B⟩;have I:=h_ v;rw[yN,j_,I]at B;have B:V.ref (Z.G (.lo k))=x:=m_ B;subst B;have m:=J.layer I;refine aq (j3 (bD (ip (y _ _ m (λz=>by rw[z,g]at m;cases m)) T.bJ T.gj rfl rfl ⟨j,by rw[c_,oe,lm];lia,lf v ⟨λb o e n=>by rw[ak (aD e r)];exact y b o e n,by rw[ak nd];exact f,ae,?_⟩⟩)));rw[dI (l:=M.las.map cR.sl) (x:=(M.las[k]).sl) (by rw[j_,I];rfl),k_];rfl
  ·rintro c S⟨y,f,j,rfl⟩;refine⟨⟨f,by rw[iW,c_];exact f_ _⟩,Z.G .ln,_,L,f,D,_,rfl,.inl (aX.of (by rw[ak (pv nd)];exact j)),rfl,oI _,_,rfl,?_⟩;rw[mu (by rw[c_];exact f_ _)];show if(if false=true then _ else nj (.int z) ((M.las.map cR.sl).map V.int))=true then _ else _
   rw[ku mo,DL,no hn];refine bV (q _ λb o e=>?_)
   by_cases F:b=Z.G .ln
   ·rw[F,g]at e;rw[F,ae];exact e
   ·rw[ak F];exact y b o e F
def uV(T:Txt K mg a):aO P w K mg base dk 12 a.fL.x a.fL.d ["deed","layers","trials"] (Gj K):=by
 refine T.fL.ok uz λI A outer s H vs Q E f h=>?_
 ·obtain⟨d,J,tr,ar,sh,ru,x,y,r,L,l,M,N,tk,rfl,g,R,S,k,i,j,m,n,h1,h2,h3,h4,o,p,t,u,v,z,B,C,D,F,q⟩:=h;refine⟨_,(ag (aR (pc T.gJ (pq T) f (ac (df K (Y 0) af) (ac (Y 2) O)))) (ag (aR (pc T.bM (c7 T) f (ac (df K (Y 0) af) (ac (Y 1) O)))) (ag (aR (pc T.gL (wF T) f (ac (df K (Y 0) af) O))) (ag (aR (pc T.gI (wB T) f (ac (df K (Y 0) af) O))) (ah (aR (pc T.fN (uX T) f (ac (df K (Y 0) af) (ac (Y 2) O))))))))),?_⟩
  refine U rfl (rX g rfl (U rfl ⟨x,tr,tk,rfl,R,i,j,λH1 G=>?_⟩));refine U rfl (rX (am.tseq G g) rfl (U rfl ⟨y,J,N,rfl,S,G _ _ k,m,λH2 V=>?_⟩));have c:=G.trans V;refine U rfl (rX (am.tseq c g) rfl ⟨ar,l,rfl,am.tseq c n,h1,h2,h3,h4,λH3 W=>?_⟩);have e:=c.trans W;refine U rfl (rX (am.tseq e g) rfl ⟨r,ru,L,rfl,o.kp (.of e),p,t,u,v,z,λH4 X=>?_⟩);have b:=e.trans X;exact U rfl (rX (am.tseq b g) rfl (U rfl ⟨sh,tr,M,tk,rfl,am.tseq b B,b _ _ i,C,D,F,λZ s5=>q Z (b.trans s5)⟩))
end
inductive Dd|layer(nm:Str)(sl:Int)|trial(x:eh)|share(t:eh)(ns:Sh)|deal(t:eh)(z:Int)(ws:Sh)|hold(l:cR)(z:Int)|pause(t:eh)(b:Bool)|close(t:eh)|bar(g:Str)(t:eh)|visit(g:Str)
def Dd.clo:Dd->Bool|.share t _=>t.clo|.deal t _ _=>t.clo|.pause t _=>t.clo|.close t=>t.clo|_=>false
inductive mM(K:R7)(H:Hp)(M:cy):Dd->List V->Prop|layer{nm:Str}{sl:Int}(h1:Wd nm)(h2:nm∉M.las.map cR.nm)(h3:0<=sl/\sl<=M.p)(h4:sl∉M.las.map cR.sl)(h5:M.las.length<4):mM K H M (.layer nm sl) [.str "layer",.str nm,.int sl]|trial{x:eh}{ar sh ra:Addr}{ws:Sc}(h1:Lc M x)(h2:x.nm∉M.trs.map eh.nm)(h3:aW K H ar (x.arms.map V.str))(h4:ff K H x.rule (.ref ra))(h5:x.rule.cnt<=30)(h6:kx ws x.rule)(h7:∀w∈ws,Wd w)(h8:ws.length<=3)(h9:aW K H sh (x.shuts.map V.str))(ha:∀s∈x.shuts,s∈M.trs.map eh.nm)(hb:x.shuts.Nodup)(hc:x.pau=false)(hd:x.clo=false)(he:x.bar=[])(hf:M.trs.length<10):mM K H M (.trial x) [.str "trial",.str x.nm,.str x.home,.ref ar,.ref ra,.ref sh]|share{t:eh}{ns:Sh}{nv:Addr}(h1:t∈M.trs)(h2:aW K H nv (ns.map V.int))(h3:ns.length=t.arms.length)(h4:∀x∈ns,0<=x):mM K H M (.share t ns) [.str "share",.str t.nm,.ref nv]|deal{t:eh}{z:Int}{ws:Sh}{wv:Addr}(h1:t∈M.trs)(hz:0<=z/\z<=1000)(h2:aW K H wv (ws.map V.int))(h3:ws.length=t.arms.length)(h4:∀x∈ws,1<=x/\x<=c5):mM K H M (.deal t z ws) [.str "deal",.str t.nm,.int z,.ref wv]|hold{l:cR}{z:Int}(h1:l∈M.las)(h2:0<=z):mM K H M (.hold l z) [.str "hold",.str l.nm,.int z]|pause{t:eh}(h1:t∈M.trs):mM K H M (.pause t true) [.str "pause",.str t.nm]|go{t:eh}(h1:t∈M.trs):mM K H M (.pause t false) [.str "go",.str t.nm]|close{t:eh}(h1:t∈M.trs):mM K H M (.close t) [.str "close",.str t.nm]|bar{g:Str}{t:eh}(h1:DX g)(h2:t∈M.trs):mM K H M (.bar g t) [.str "bar",.str g,.str t.nm]|visit{g:Str}{mv:V}{ms:List (Str×Int)}(h1:DX g)(h2:tS K H ms mv)(h3:∀m∈ms,Wd m.1/\-c5<=m.2/\m.2<=c5)(h4:(ms.map Prod.fst).Nodup)(h5:ms.length<=8):mM K H M (.visit g) [.str "visit",.str g,mv]
theorem mM.kp(e:Kp H H')(h:mM K H M d c):mM K H' M d c:=by cases h with|layer h1 h2 h3 h4 h5=>exact .layer h1 h2 h3 h4 h5|trial h1 h2 h3 h4 h5 h6 h7 h8 h9 b f hc hd g i=>exact .trial h1 h2 (e.tq h3) (h4.kp e) h5 h6 h7 h8 (e.tq h9) b f hc hd g i|share h1 h2 h3 h4=>exact .share h1 (e.tq h2) h3 h4|deal h1 j h2 h3 h4=>exact .deal h1 j (e.tq h2) h3 h4|hold h1 h2=>exact .hold h1 h2|pause h1=>exact .pause h1|go h1=>exact .go h1|close h1=>exact .close h1|bar h1 h2=>exact .bar h1 h2|visit h1 h2 h3 h4 h5=>exact .visit h1 (h2.kp e) h3 h4 h5
inductive zN(K:R7)(H:Hp)(many:Nat):Str->List V->Prop|share{p:Addr}{l:Sh}(h1:aW K H p (l.map V.int))(h2:∀i∈l,0<=i)(h3:l.length=many):zN K H many "share" [.ref p]|deal{z:Int}{p:Addr}{l:Sh}(hz:0<=z/\z<=1000)(h1:aW K H p (l.map V.int))(h2:∀i∈l,1<=i/\i<=c5)(h3:l.length=many):zN K H many "deal" [.int z,.ref p]|other{k:Str}(h1:k≠"share")(h2:k≠"deal"):zN K H many k []
inductive L7(P:Sb)(w:World)(K:R7)(a:iK)(vs:List V)(H:Hp)(Q:VK)(E:XK):Prop|mk(d:Addr)(M:cy)(Z:ZS)(c:Nat)(k:Str)(t:eh)(xs:List V)(_:vs=[.ref d,.ref (Z.G .tn)])(_:aW K H d (.str k::.str t.nm::xs))(_:bA P w K a H M Z)(_:nM M c)(_:t∈M.trs)(_:zN K H t.arms.length k xs)(_:(t.clo=false->∀H',am H H'->Q .non H'))(_:(t.clo=true->∀H',am H H'->E (.ref a.wb) none H'))
section
def wC(T:Txt K mg a):aO P w K mg base (sN P w) 5 a.eP.x a.eP.d ["deed","trials"] (L7 P w K a):=by
 refine T.eP.okE j5 λF A outer s H N Q E n h=>?_
 ·obtain⟨d,M,Z,c,k,t,R,rfl,o,y,z,B,I,q,r⟩:=h;refine⟨_,(ag (aR (pc T.bM (c7 T) n (ac (df K (Y 0) af) (ac (Y 1) O)))) (ag (bg 2 j5.nd (dL (ck n) (Y 1) (df K (Y 0) af) (λ_ _=>rfl))) (ag (bg 3 j5.nd (ay (aH K rfl) (by rfl) T.bE L2.aI (ac (aG K rfl (Y 2)) O))) (ag (aJ (aE aS (df K (Y 0) af) aB (aF _)) (ah (aR (pc T.fc (tu T) n (ac (df K (Y 0) af) (ac (Y 3) O))))) (ah (aJ (aE aS (df K (Y 0) af) aB (aF _)) (ah (aR (pc T.eA (qO T) n (ac (df K (Y 0) af) (ac (df K (Y 0) af) (ac (Y 3) O)))))) aC))) (ah (aJ (aM K rfl (aG K rfl (Y 2)) (λ_=>rfl)) (ah (uQ T.xO rfl T.AZ rfl uP (ac aB O))) aC)))))),?_⟩
  obtain⟨j,u⟩:=m3.mp B;have l:=z.tr t B;have C:=z.tget (Z:=Z) u;have J:=l.a4;refine U rfl (rX o (ao (k:=1) rfl) (U rfl ⟨t.nm,Z.G .tn,_,rfl,l.wd,y.tris,by rw[C];rfl,λD e=>?_⟩));have g:=y.same e;have p:=g.trial u;obtain⟨v,-,-⟩:=g.trs j t u;refine U rfl (U rfl (rX (am.tseq e o) (ao (k:=1) rfl) (rG (.ref (Z.G (.tr j))) (by rw[<-C];exact dG.k (k:=.inr t.nm) g.tris) (aq ?_))));refine ip p T.bd T.fA rfl rfl ⟨_,t.arms.length,rfl,.inr ⟨_,v,by simp⟩,aq ?_⟩;refine U rfl (rX (am.tseq e o) (ao (k:=0) rfl) ⟨rfl,U rfl ?_⟩);have f:=am.tseq e o;cases I with
 |share h1 h2 h3=>
   refine bW ?_;refine U rfl (rX f (ao (k:=2) rfl) (U rfl ⟨_,_,by rw[h3];rfl,am.tseq e h1,h2,by lia,λm i=>?_⟩));refine ip (i _ _ p) T.bd T.d9 rfl rfl ⟨t.clo,rfl,?_⟩;cases b:t.clo
   ·exact bV (q b m (e.trans i))
   ·exact bD ⟨ls rfl,r b m (e.trans i)⟩|deal L h1 h2 h3=>
   refine wn ?_;refine U rfl (rX f (ao (k:=0) rfl) ⟨rfl,U rfl (bW ?_)⟩);refine U rfl (rX f (ao (k:=2) rfl) (U rfl (rX f (ao (k:=3) rfl) (U rfl ⟨_,_,_,by rw[h3];rfl,L,am.tseq e h1,h2,by lia,λm i=>?_⟩))));refine ip (i _ _ p) T.bd T.d9 rfl rfl ⟨t.clo,rfl,?_⟩;cases b:t.clo
   ·exact bV (q b m (e.trans i))
   ·exact bD ⟨ls rfl,r b m (e.trans i)⟩|other h1 h2=>
   refine tV h1 ?_;refine U rfl (rX f (ao (k:=0) rfl) ⟨rfl,U rfl (tV h2 ?_)⟩);refine ip p T.bd T.d9 rfl rfl ⟨t.clo,rfl,?_⟩;cases b:t.clo
   ·exact bV (q b D e)
   ·exact bD ⟨ls rfl,r b D e⟩
end
inductive JR(P:Sb)(w:World)(K:R7)(a:iK)(vs:List V)(H:Hp)(Q:VK)(E:XK):Prop|mk(dv:Addr)(M:cy)(Z:ZS)(c:Nat)(d:Dd)(xs:List V)(_:vs=[.ref dv,.int M.p,.ref (Z.G .ln),.ref (Z.G .tn)])(_:aW K H dv xs)(_:bA P w K a H M Z)(_:nM M c)(_:mM K H M d xs)(_:(d.clo=false->∀H',am H H'->Q .non H'))(_:(d.clo=true->∀H',am H H'->E (.ref a.wb) none H'))
section
def wE(T:Txt K mg a)(hw:w.params=a.pm):aO P w K mg base (sN P w) 13 a.eR.x a.eR.d ["deed","prime","layers","trials"] (JR P w K a):=by
 refine T.eR.okE ny λaa A outer s H vs Q E p h=>?_
 ·obtain⟨n,M,Z,c,d,xs,rfl,e,r,u,hD,q,C⟩:=h;refine⟨_,(ag (aR (pc T.gK (wD T hw) p (ac (Y 0) O))) (ag (bg 4 ny.nd (df K (Y 0) af)) (ah (aJ (aE aS (Y 4) aB (aF _)) (ag (aR (pc T.gJ (pq T) p (ac (df K (Y 0) af) (ac (Y 2) O)))) (ah (aR (pc T.fM (uW T) p (ac (df K (Y 0) af) (ac (Y 1) (ac (Y 2) O))))))) (ah (aJ (aE aS (Y 4) aB (aF _)) (ah (aR (pc T.fL (uV T) p (ac (Y 0) (ac (Y 2) (ac (Y 3) O)))))) (ah (aJ (aE aS (Y 4) aB (aF _)) (ag (aR (pc T.bM (c7 T) p (ac (df K (Y 0) af) (ac (Y 2) O)))) (ah (aR (pc T.fS (u3 T) p (ac (df K (Y 0) af) O))))) (ah (aJ (aE aS (Y 4) aB (aF _)) (ag (aR (pc T.eQ (mq T) p (ac (df K (Y 0) af) O))) (ah (aR (pc T.bM (c7 T) p (ac (df K (Y 0) af) (ac (Y 3) O)))))) (ah (aJ (aE aS (Y 4) aB (aF _)) (ag (aR (pc T.eQ (mq T) p (ac (df K (Y 0) af) O))) (ah (aR (pc T.fP (uZ T) p (ac (df K (Y 0) af) O))))) (ah (aR (bw ((wC T).mono (by decide)) p rfl T.eP.m T.eP.f.kp T.eP.b .nil eE (ac (Y 0) (ac (Y 3) O))))))))))))))))),?_⟩
  have v:∀t∈M.trs,(bp (jV (M.trs.map eh.nm) λi=>V.ref (Z.G (.tr i))) (.inr t.nm)).isSome=true:=λt ht=>by obtain⟨j,R⟩:=m3.mp ht;rw[u.tget (Z:=Z) R];rfl
  have B:∀l∈M.las,(bp (jV (M.las.map cR.nm) λi=>V.ref (Z.G (.lo i))) (.inr l.nm)).isSome=true:=λl hl=>by obtain⟨j,R⟩:=m3.mp hl;rw[u.lget (Z:=Z) R];rfl
  cases hD with|@layer nm sl h1 h2 h3 h4 h5=>refine U rfl ⟨n,_,_,rfl,e,T.rg,?_⟩;refine U rfl (rX e (ao (k:=0) rfl) (aq ?_));refine U rfl ⟨rfl,U rfl (bW ?_)⟩;refine U rfl (rX e (ao (k:=1) rfl) (U rfl ⟨_,Z.G .ln,_,rfl,h1,r.lays,my h2,λL o=>?_⟩));exact U rfl (rX (am.tseq o e) (ao (k:=2) rfl) (U rfl (U rfl ⟨sl,M,Z,rfl,r.same o,by exact tl h5,h3.1,h3.2,h4,λD F=>q rfl D (o.trans F)⟩)))|@trial x ar sh ra S h1 h2 h3 h4 h5 h6 h7 h8 h9 ha hb hc hd he hf=>refine U rfl ⟨n,_,_,rfl,e,T.rc,?_⟩;refine U rfl (rX e (ao (k:=0) rfl) (aq ?_));refine U rfl ⟨rfl,U rfl (wn ?_)⟩;refine U rfl ⟨rfl,U rfl (bW ?_)⟩;obtain⟨W,I,J⟩:=nk.mp h1.hm;refine U rfl (U rfl (U rfl ⟨n,Z.G .ln,Z.G .tn,ar,sh,.ref ra,x.nm,x.home,x.rule,S,x.arms,x.shuts,_,_,rfl,e,h1.wd,by rw[<-J];exact(u.la W I).wd,r.lays,r.tris,my h2,by rw[<-J];exact B W I,h3,h1.aw,h1.nd,h1.a1,h1.a4,h4,h1.hg,h5,h6,h7,h8,h9,λy hy=>?_,hb,h1.s8,q rfl⟩));obtain⟨z,N,X⟩:=nk.mp (ha y hy);exact⟨by rw[<-X];exact(u.tr z N).wd,by rw[<-X];exact v z N⟩|@hold l z h1 h2=>refine U rfl ⟨n,_,_,rfl,e,T.tM,?_⟩;refine U rfl (rX e (ao (k:=0) rfl) (aq ?_));(iterate 2 refine U rfl ⟨rfl,U rfl (wn ?_)⟩);refine U rfl ⟨rfl,U rfl (bW ?_)⟩;refine U rfl (rX e (ao (k:=1) rfl) (U rfl ⟨_,Z.G .ln,_,rfl,(u.la l h1).wd,r.lays,B l h1,λL o=>?_⟩));exact U rfl ⟨n,_,2,_,rfl,rfl,am.tseq o e,ao (k:=2) rfl,_,rfl,h2,q rfl L o⟩|@bar g t h1 h2=>refine U rfl ⟨n,_,_,rfl,e,T.vg,?_⟩;refine U rfl (rX e (ao (k:=0) rfl) (aq ?_));(iterate 3 refine U rfl ⟨rfl,U rfl (wn ?_)⟩);refine U rfl ⟨rfl,U rfl (bW ?_)⟩;refine U rfl (rX e (ao (k:=1) rfl) ⟨g,rfl,h1,λL o=>?_⟩);exact U rfl (rX (am.tseq o e) (ao (k:=2) rfl) (U rfl ⟨t.nm,Z.G .tn,_,rfl,(u.tr t h2).wd,o _ _ r.tris,v t h2,λD F=>q rfl D (o.trans F)⟩))|@visit g mv ms h1 h2 h3 h4 h5=>refine U rfl ⟨n,_,_,rfl,e,T.rb,?_⟩;refine U rfl (rX e (ao (k:=0) rfl) (aq ?_));(iterate 4 refine U rfl ⟨rfl,U rfl (wn ?_)⟩);refine U rfl ⟨rfl,U rfl (bW ?_)⟩;refine U rfl (rX e (ao (k:=1) rfl) ⟨g,rfl,h1,λL o=>?_⟩);exact U rfl (rX (am.tseq o e) (ao (k:=2) rfl) ⟨mv,ms,rfl,h2.kp (.of o),h3,h4,h5,λD F=>q rfl D (o.trans F)⟩)|@share t ns nv h1 h2 h3 h4=>refine U rfl ⟨n,_,_,rfl,e,T.re,?_⟩;refine U rfl (rX e (ao (k:=0) rfl) (aq ?_));(iterate 5 refine U rfl ⟨rfl,U rfl (wn ?_)⟩);exact U rfl (U rfl ⟨n,M,Z,c,_,t,_,rfl,e,r,u,h1,.share h2 h4 h3,q,C⟩)|@deal t z S wv h1 N h2 h3 h4=>refine U rfl ⟨n,_,_,rfl,e,T.tN,?_⟩;refine U rfl (rX e (ao (k:=0) rfl) (aq ?_));(iterate 5 refine U rfl ⟨rfl,U rfl (wn ?_)⟩);exact U rfl (U rfl ⟨n,M,Z,c,_,t,_,rfl,e,r,u,h1,.deal N h2 h4 h3,q,C⟩)|@pause t h1=>refine U rfl ⟨n,_,_,rfl,e,T.rf,?_⟩;refine U rfl (rX e (ao (k:=0) rfl) (aq ?_));(iterate 5 refine U rfl ⟨rfl,U rfl (wn ?_)⟩);exact U rfl (U rfl ⟨n,M,Z,c,_,t,_,rfl,e,r,u,h1,.other (by decide+kernel) (by decide+kernel),q,C⟩)|@go t h1=>refine U rfl ⟨n,_,_,rfl,e,T.wX,?_⟩;refine U rfl (rX e (ao (k:=0) rfl) (aq ?_));(iterate 5 refine U rfl ⟨rfl,U rfl (wn ?_)⟩);exact U rfl (U rfl ⟨n,M,Z,c,_,t,_,rfl,e,r,u,h1,.other (by decide+kernel) (by decide+kernel),q,C⟩)|@close t h1=>refine U rfl ⟨n,_,_,rfl,e,T.rh,?_⟩;refine U rfl (rX e (ao (k:=0) rfl) (aq ?_));(iterate 5 refine U rfl ⟨rfl,U rfl (wn ?_)⟩);exact U rfl (U rfl ⟨n,M,Z,c,_,t,_,rfl,e,r,u,h1,.other (by decide+kernel) (by decide+kernel),q,C⟩)
end
def Iv(c:Sh)(n:Nat):∀i∈deal c n,0<=i:=λi hi=>by obtain⟨k,b⟩:=m3.mp hi;have:=(zw c n k).1;unfold gd at this;rw[z8,b]at this;exact this
inductive j0(M:cy):Dd->cy->Prop|layer{nm:Str}{sl:Int}:j0 M (.layer nm sl) (zJ M nm sl)|trial{x:eh}:j0 M (.trial x) (zI M x)|share{t:eh}{ns:Sh}{i:Nat}{l:cR}(hl:M.las[i]?=some l)(hh:l.nm=t.home)(hn:jW l.S (r9 t.nm t.arms ns)<=((pN M.p l.S.oc).length:Int)):j0 M (.share t ns) (n6 M i l t ns)|deal{t:eh}{z:Int}{ws:Sh}{i:Nat}{l:cR}(hl:M.las[i]?=some l)(hh:l.nm=t.home)(hn:jW l.S (r9 t.nm t.arms (deal ws z.toNat))<=((pN M.p l.S.oc).length:Int)):j0 M (.deal t z ws) (n6 M i l t (deal ws z.toNat))|hold{l:cR}{z:Int}{i:Nat}(hl:M.las[i]?=some l):j0 M (.hold l z) (HQ M i l z)|pause{t:eh}{b:Bool}{j:Nat}(hj:M.trs[j]?=some t):j0 M (.pause t b) (M.setT j {t with pau:=b})|close{t:eh}{i j:Nat}{l:cR}(hj:M.trs[j]?=some t)(hl:M.las[i]?=some l)(hh:l.nm=t.home):j0 M (.close t) (n6 (M.setT j {t with clo:=true}) i l {t with clo:=true} (oR t))|bar{g:Str}{t:eh}{i j:Nat}{l:cR}(hj:M.trs[j]?=some t)(hl:M.las[i]?=some l)(hh:l.nm=t.home):j0 M (.bar g t) (Dl M i j l t g)|visit{g:Str}{M':cy}(h:k6 g M M'):j0 M (.visit g) M'
def Dd.adds:Dd->Bool|.layer _ _=>true|.trial _=>true|_=>false
def Dd.clo_adds{d:Dd}(h:d.clo=true):d.adds=false:=by cases d<;>first|rfl|cases h
inductive Mh(P:Sb)(w:World)(K:R7)(a:iK)(vs:List V)(H:Hp)(Q:VK)(E:XK):Prop|mk(M:cy)(Z:ZS)(c:Nat)(dv:Addr)(d:Dd)(xs:List V)(_:vs=[.ref (Z.G .hh),.ref dv])(_:cE P w K a H M Z c)(_:c<=63)(_:aW K H dv xs)(_:mM K H M d xs)(_:(∀(r:Addr)(us:List V)(M':cy)(Z':ZS)(H':Hp),j0 M d M'->gu H M Z H' M' Z'->cE P w K a H' M' Z' (c+1)->H r=none->H' r=some (.lst us)->Z'.ds=Z.ds->Q (.ref r) H'))(_:(d.adds=false->∀H',am H H'->E (.ref a.oP) none H'))
section
def wK(T:Txt K mg a):aO P w K mg base (sN P w) 11 a.fI.x a.fI.d ["self","deed"] (Mh P w K a):=by
 refine T.fI.okE nz λap A outer s H vs Q E p h=>?_
 ·obtain⟨M,Z,c,dv,d,xs,rfl,y,hc,u,hD,q,V⟩:=h;refine⟨_,(ag (bg 2 nz.nd (df K (Y 1) af)) (ag (aJ (aE aS (Y 2) aB (aF _)) (ah (ax (bo (Y 0) T.az T.cV.m ((pB (P:=P) (w:=w) T).mono (by decide)) p T.cV.b .nil bh (ac (df K (Y 1) af) (ac (df K (Y 1) af) O))))) aC) (ag (aJ (aE aS (Y 2) aB (aF _)) (ah (ax (bo (Y 0) T.az T.cU.m ((pA (P:=P) (w:=w) T).mono (by decide)) p T.cU.b .nil bh (ac (df K (Y 1) af) (ac (tY T.Hh ((tw (P:=P) (w:=w) T).mono (by decide)) p rfl T.Kt T.dR.b .nil bh (ac (df K (Y 1) af) (ac (df K (Y 1) af) (ac (df K (Y 1) af) (ac (df K (Y 1) af) O))))) O))))) aC) (ag (aJ (aE aS (Y 2) aB (aF _)) (ah (ax (bo (Y 0) T.az T.bC.m ((gh (P:=P) (w:=w) T).mono (by decide)) p T.bC.b .nil eE (ac (df K (Y 1) af) (ac (df K (Y 1) af) O))))) aC) (ag (aJ (aE aS (Y 2) aB (aF _)) (ah (ax (bo (Y 0) T.az T.bC.m ((gh (P:=P) (w:=w) T).mono (by decide)) p T.bC.b .nil eE (ac (df K (Y 1) af) (ac (pc T.xR (GZ T) p (ac (df K (Y 1) af) (ac (df K (Y 1) af) O))) O))))) aC) (ag (aJ (aE aS (Y 2) aB (aF _)) (ah (ax (bo (Y 0) T.az T.dh.m ((qP (P:=P) (w:=w) T).mono (by decide)) p T.dh.b .nil eE (ac (df K (Y 1) af) (ac (df K (Y 1) af) O))))) aC) (ag (aJ (aE aS (Y 2) aB (aF _)) (ah (ax (bo (Y 0) T.az T.ce.m ((jU (P:=P) (w:=w) T).mono (by decide)) p T.ce.b .nil bh (ac (df K (Y 1) af) (ac eD O))))) aC) (ag (aJ (aE aS (Y 2) aB (aF _)) (ah (ax (bo (Y 0) T.az T.ce.m ((jU (P:=P) (w:=w) T).mono (by decide)) p T.ce.b .nil bh (ac (df K (Y 1) af) (ac eD O))))) aC) (ag (aJ (aE aS (Y 2) aB (aF _)) (ah (ax (bo (Y 0) T.az T.cW.m ((pC (P:=P) (w:=w) T).mono (by decide)) p T.cW.b .nil eE (ac (df K (Y 1) af) O)))) aC) (ag (aJ (aE aS (Y 2) aB (aF _)) (ah (ax (bo (Y 0) T.az T.d6.m ((tG (P:=P) (w:=w) T).mono (by decide)) p T.d6.b .nil bh (ac (df K (Y 1) af) (ac (df K (Y 1) af) O))))) aC) (ah (ax (bo (Y 0) T.az T.cT.m ((pz (P:=P) (w:=w) T).mono (by decide)) p T.cT.b .nil bh (ac (df K (Y 1) af) (ac (df K (Y 1) af) O))))))))))))))),?_⟩
  have F:=y.g.house;cases hD with|@layer nm sl h1 h2 h3 h4 h5=>refine U rfl (rX u (ao (k:=0) rfl) (aq ?_));refine U rfl ⟨rfl,U rfl (bW ?_)⟩;exact nh F rfl rfl (U rfl (rX u (ao (k:=1) rfl) (U rfl (rX u (ao (k:=2) rfl) ⟨M,Z,c,nm,sl,rfl,y,h1,h2,h3,h5,λr B H' st f p n v=>q r [] _ B H' .layer st (f.mono (r3 c)) p n v⟩))))|@trial x ar sh ra J h1 h2 h3 h4 h5 h6 h7 h8 h9 ha hb W hd he hf=>
   refine U rfl (rX u (ao (k:=0) rfl) (aq ?_));refine U rfl ⟨rfl,U rfl (wn ?_)⟩;refine U rfl ⟨rfl,U rfl (bW ?_)⟩;refine nh F rfl rfl (U rfl (rX u (ao (k:=1) rfl) ?_));refine U rfl (rX u (ao (k:=2) rfl) (U rfl (rX u (ao (k:=3) rfl) (U rfl (rX u (ao (k:=4) rfl) (U rfl (rX u (ao (k:=5) rfl) (λt ty L X as=>?_))))))));have s2:am H (aA (aA H ty (.own t)) t (.ins a.fC ty [])):=λb o e=>by rw[ak (aD e L),ak (aD e X)];exact e
   have N:aA (aA H ty (.own t)) t (.ins a.fC ty []) t=some (.ins a.fC ty []):=ae;generalize aA (aA H ty (.own t)) t (.ins a.fC ty [])=H2 at s2 N⊢;refine⟨t,ty,ar,ra,sh,x.home,rfl,N,λba H3 aa f3 ad al=>⟨rfl,?_⟩⟩;have s3:am H H3:=λb o e=>f3 b o (s2 b o e) (aD e L);exact⟨M,Z,c,H,t,ba,ty,ar,sh,.ref ra,x,rfl,y,s3,L,s2.free aa,al,ad,h3,h4,h9,W,hd,he,h1,h2,hf,λr B H' st f p n v=>q r [] _ B H' .trial st (f.mono (r3 c)) p n v⟩|@share t ns nv h1 h2 h3 h4=>obtain⟨j,C⟩:=m3.mp h1;obtain⟨i,l,D,hh⟩:=y.ok.home h1;refine U rfl (rX u (ao (k:=0) rfl) (aq ?_));(iterate 2 refine U rfl ⟨rfl,U rfl (wn ?_)⟩);refine U rfl ⟨rfl,U rfl (bW ?_)⟩;exact nh F rfl rfl (U rfl (rX u (ao (k:=1) rfl) (U rfl (rX u (ao (k:=2) rfl) ⟨M,Z,c,i,j,l,t,nv,ns,rfl,y,hc,C,D,hh,.inr h2,h3,h4,λG r I B H' st f p n v=>q r I _ B H' (.share D hh G) st f p n v,λ_=>V rfl⟩))))|@deal t z J wv h1 hz h2 h3 h4=>
   obtain⟨j,C⟩:=m3.mp h1;obtain⟨i,l,D,hh⟩:=y.ok.home h1;have R:=y.ok.tr t h1;have a1:=R.a1;have a4:=R.a4;refine U rfl (rX u (ao (k:=0) rfl) (aq ?_));(iterate 3 refine U rfl ⟨rfl,U rfl (wn ?_)⟩);refine U rfl ⟨rfl,U rfl (bW ?_)⟩;refine nh F rfl rfl (U rfl (rX u (ao (k:=1) rfl) (U rfl (rX u (ao (k:=2) rfl) (U rfl (rX u (ao (k:=3) rfl) ⟨z.toNat,wv,J,by rw[show((z.toNat:Nat):Int)=z by lia];rfl,by lia,h2,by lia,by lia,λtv H1 S L=>?_⟩))))));have an:(deal J z.toNat).length=t.arms.length:=by rw[mH];exact h3
   exact⟨M,Z,c,i,j,l,t,tv,deal J z.toNat,rfl,y.same S,hc,C,D,hh,.inr (aW.of L),an,Iv J z.toNat,λG r I B H' st f p n v=>q r I _ B H' (.deal D hh G) ((gu.of S).trans st) f (S.free p) n v,λ_ H' s'=>V rfl H' (S.trans s')⟩|@hold l z h1 h2=>obtain⟨i,D⟩:=m3.mp h1;refine U rfl (rX u (ao (k:=0) rfl) (aq ?_));(iterate 4 refine U rfl ⟨rfl,U rfl (wn ?_)⟩);refine U rfl ⟨rfl,U rfl (bW ?_)⟩;exact nh F rfl rfl (U rfl (rX u (ao (k:=1) rfl) (U rfl (rX u (ao (k:=2) rfl) ⟨M,Z,c,i,l,z,rfl,y,hc,D,h2,λG r B H' st f p n v=>q r [] _ B H' (.hold D) st f p n v,λ_=>V rfl⟩))))|@pause t h1=>obtain⟨j,C⟩:=m3.mp h1;refine U rfl (rX u (ao (k:=0) rfl) (aq ?_));(iterate 5 refine U rfl ⟨rfl,U rfl (wn ?_)⟩);refine U rfl ⟨rfl,U rfl (bW ?_)⟩;exact nh F rfl rfl (U rfl (rX u (ao (k:=1) rfl) ⟨M,Z,c,j,t,true,rfl,y,C,λr H' st f p n=>q r [] _ Z H' (.pause C) st (f.mono (r3 c)) p n rfl⟩))|@go t h1=>obtain⟨j,C⟩:=m3.mp h1;refine U rfl (rX u (ao (k:=0) rfl) (aq ?_));(iterate 6 refine U rfl ⟨rfl,U rfl (wn ?_)⟩);refine U rfl ⟨rfl,U rfl (bW ?_)⟩;exact nh F rfl rfl (U rfl (rX u (ao (k:=1) rfl) ⟨M,Z,c,j,t,false,rfl,y,C,λr H' st f p n=>q r [] _ Z H' (.pause C) st (f.mono (r3 c)) p n rfl⟩))|@close t h1=>obtain⟨j,C⟩:=m3.mp h1;obtain⟨i,l,D,hh⟩:=y.ok.home h1;refine U rfl (rX u (ao (k:=0) rfl) (aq ?_));(iterate 7 refine U rfl ⟨rfl,U rfl (wn ?_)⟩);refine U rfl ⟨rfl,U rfl (bW ?_)⟩;exact nh F rfl rfl (U rfl (rX u (ao (k:=1) rfl) ⟨M,Z,c,i,j,l,t,rfl,y,hc,C,D,hh,λr I B H' st f p n v=>q r I _ B H' (.close C D hh) st f p n v⟩))|@bar g t h1 h2=>obtain⟨j,C⟩:=m3.mp h2;obtain⟨i,l,D,hh⟩:=y.ok.home h2;refine U rfl (rX u (ao (k:=0) rfl) (aq ?_));(iterate 8 refine U rfl ⟨rfl,U rfl (wn ?_)⟩);refine U rfl ⟨rfl,U rfl (bW ?_)⟩;exact nh F rfl rfl (U rfl (rX u (ao (k:=1) rfl) (U rfl (rX u (ao (k:=2) rfl) ⟨M,Z,c,i,j,l,t,g,rfl,y,hc,C,D,hh,h1,λr I B H' st f p n v=>q r I _ B H' (.bar C D hh) st f p n v⟩))))|@visit g mv ms h1 h2 h3 h4 h5=>refine U rfl (rX u (ao (k:=0) rfl) (aq ?_));(iterate 9 refine U rfl ⟨rfl,U rfl (wn ?_)⟩);exact nh F rfl rfl (U rfl (rX u (ao (k:=1) rfl) (U rfl (rX u (ao (k:=2) rfl) ⟨M,Z,c,g,mv,ms,rfl,y,hc,h1,h2,h5,λr I M' B H' vt st f p n v=>q r I M' B H' (.visit vt) st f p n v⟩))))
end
inductive Of(P:Sb)(w:World)(K:R7)(a:iK)(vs:List V)(H:Hp)(Q:VK)(E:XK):Prop|mk(M:cy)(Z:ZS)(c:Nat)(dv:Addr)(d:Dd)(xs:List V)(_:vs=[.ref (Z.G .hh),.ref dv])(_:cE P w K a H M Z c)(_:c<=63)(_:aW K H dv xs)(_:mM K H M d xs)(_:(d.clo=false->∀(r:Addr)(us:List V)(M':cy)(Z':ZS)(H':Hp),j0 M d M'->gu H M Z H' M' Z'->cE P w K a H' M' Z' (c+1)->H r=none->H' r=some (.lst us)->Q (.ref r) H'))(_:(d.adds=false->∀H',am H H'->E (.ref a.oP) none H'))(_:(d.adds=false->∀H',am H H'->E (.ref a.wb) none H'))
section
def AM(T:Txt K mg a)(S:w.params=a.pm):aO P w K mg base (sN P w) 14 a.jw.x a.jw.d ["self","deed"] (Of P w K a):=by
 refine T.jw.okE se λV A outer s H vs Q E l h=>?_
 ·obtain⟨M,Z,c,n,d,J,rfl,o,hc,L,N,q,W,X⟩:=h;refine⟨_,(ag (aR (bw ((wE T S).mono (by decide)) l rfl T.eR.m T.eR.f.kp T.eR.b .nil eE (ac (Y 1) (ac (aG K rfl (Y 0)) (ac (aG K rfl (Y 0)) (ac (aG K rfl (Y 0)) O)))))) (ag (bg 2 se.nd (bo (Y 0) T.az T.fI.m ((wK (P:=P) (w:=w) T).mono (by decide)) l T.fI.b .nil eE (ac (Y 1) O))) (ag (aR (jk K rfl PySem.F.plainAttrs_list PySem.F.slot_list_append PySem.F.type_list_append eZ (aG K rfl (Y 0)) (ac (Y 1) O))) (ah (ax (Y 2)))))),?_⟩
  have v:=o.g.house;refine U rfl (ip v T.az T.bP rfl rfl (ip v T.az T.aN rfl rfl (ip v T.az T.aP rfl rfl ?_)));refine⟨n,M,Z,c,d,J,rfl,L,o.g,o.ok,N,λk H1 i=>?_,λk=>X (Dd.clo_adds k)⟩;refine nh (i _ _ v) rfl rfl (U rfl ⟨M,Z,c,n,d,J,rfl,o.same i,hc,am.tseq i L,N.kp (.of i),λr us y j R nx st e l B p=>?_,λha H' s'=>W ha H' (i.trans s')⟩);have t:=e.g.house;rw[st.hh]at t;have u:=e.g.dees;have C:=o.ds;refine aq (ip t T.az T.mB rfl rfl ⟨.inl ⟨rfl,_,aX.of u⟩,U rfl (rA u (by rw[p,lm];lia) ?_)⟩);have D:=e.g.deed (.ref n);have I:gu R y j (aA R (j.G .dl) (.lst (j.ds++[.ref n]))) y {j with ds:=j.ds++[.ref n]}:=gu.put (r:=.dl) trivial rfl rfl rfl rfl λx hx=>.inl hx;refine U rfl (q k r us y {j with ds:=j.ds++[.ref n]} _ nx (((gu.of i).trans st).trans I) ⟨D,e.ok,e.tk,e.ow,by show(j.ds++[_]).length<=c+1;rw[kt,p];exact wr C⟩ (i.free l) ?_);rw[ak λz=>?_]
  ·exact B
  ·rw[z,st.dd,i _ _ o.g.dees]at l;cases l
end
def Ln:List Str:=["ann","ann7","7ann","an","nan","ana","anan","b","bob12","bob1","21bob","annbob"]
def F4:List Str:=["","ann7","0","guestofthishouse99"]
def GC(k:Nat):Nat:=if k<26 then 97+k else 22+k
def PJ(z:Str)(i:Int)(c:Nat):Str:=Txt.slice z none (some i)++(⟨#[c]⟩:Str)++Txt.slice z (some i) none
def Ph(x:Str):Bool:=decide (1<=x.length)&&decide (x.length<=24)&&x.cps.toList.all λc=>decide (c∈kr.cps.toList)
def Lu(h:Ph x=true):DX x:=by unfold Ph at h;rw[o0,o0]at h;exact⟨rm h.1.1,rm h.1.2,λc hc=>rm (List.all_eq_true.mp h.2 c hc)⟩
def Gz:∀z∈Ln,Ph z=true:=by decide+kernel
def Ko:∀z∈F4,∀i∈List.range 19,∀c∈List.range 36,Ph (PJ z (i:Int) (GC c))=true:=by decide+kernel
def Ej:∀z∈F4,z.length<=18:=by decide+kernel
def Mn:∀c∈List.range 36,we ("abcdefghijklmnopqrstuvwxyz0123456789":Str).cps.toList (c:Int)=some (GC c):=by decide+kernel
def jp{zs:Sc}{i:Int}(h0:0<=i)(h1:i<(zs.length:Int)):∃z∈zs,we (zs.map V.str) i=some (V.str z):=by obtain⟨v,b,hm⟩:=BE (xs:=zs.map V.str) h0 (by rw[c_];exact h1);obtain⟨z,c,rfl⟩:=nk.mp hm;exact⟨z,c,b⟩
inductive Gh(vs:List V)(H:Hp)(Q:VK)(_E:XK):Prop|mk(k N:Int)(_:vs=[.int k,.int N])(_:∀(g:Str)H',am H H'->DX g->Q (.str g) H')
def Cm(h:N c H):(ql.mk N R B C).nx c H:=h
def rq{c:TT}{t u:TS}{D:ql}{d:St}(h1:u D d H)(h2:∀N:St->Hp->Prop,N d H->Jo c t zZ {D with nx:=N} d H):FY (Jo c t zZ) u D d H:=h2 (u D) h1
def Pe:List Str:=["age","size","old"]
inductive Jx(K:R7)(h:Nat)(vs:List V)(H:Hp)(Q:VK)(_E:XK):Prop|mk(n i:Int)(_:vs=[.int n,.int i])(_:1<=i)(_:i<=(h:Int))(_:∀(r:Ru)(rv:V)H',am H H'->ff K H' r rv->kx Pe r->r.hgt<=h->r.cnt<2^h->Q rv H')
section
def EM(T:Txt K mg a):aO P w K mg base dk 1 a.r6.x a.r6.d ["_law_k","_law_number"] Gh:=by
 refine T.r6.ok kI λp A outer s H D Q E F h=>?_
 ·obtain⟨k,N,rfl,q⟩:=h;refine⟨_,(ag (aJ (aE aS (av aQ (av bF (Y 1) af) af) af (aF _)) (ag (bg 2 kI.nd (bn (ac aB (ac aB (ac aB (ac aB (ac aB (ac aB (ac aB (ac aB (ac aB (ac aB (ac aB (ac aB O)))))))))))))) (ah (ax (iX K (Y 2) (av aQ (av bG (Y 0) (av bF (Y 1) af)) af))))) aC) (ag (bg 3 kI.nd (iX K (bn (ac aB (ac aB (ac aB (ac aB O))))) (av aQ (Y 1) af))) (ag (bg 4 kI.nd (av aQ (av bF (Y 1) af) (av bG (ay (aH K rfl) (by rfl) T.bE L2.aI (ac (Y 3) O)) af))) (ag (bg 5 kI.nd (av aQ (av bG (Y 0) (av bF (Y 1) af)) af)) (ah (ax (av jl (av jl (gf yq (Y 3) iS (iR (Y 4))) (Au CT aB (Y 5) (λ_ _=>rfl))) (gf yq (Y 3) (iR (Y 4)) iS)))))))),?_⟩
  have b1:=bu (k+N/160) (show(0:Int)<12 by decide);have b2:=bu (k+N/160) (show(0:Int)<36 by decide);have b3:=bu N (show(0:Int)<4 by decide)
  walk_at "a"
  refine kS (λr=>?_) (λr=>?_)
  ·refine⟨ls rfl,λl g=>?_⟩
   walk_at "a"
   obtain⟨z,f,i⟩:=jp (zs:=Ln) b1.1 b1.2;exact⟨l,_,_,U rfl ⟨rfl,aX.of ae,i,q z _ (aj (am.refl H) g) (Lu (Gz z f))⟩⟩
  ·refine⟨ls rfl,λl g=>?_⟩;obtain⟨z,f,i⟩:=jp (zs:=F4) b3.1 b3.2;have u:=Ej z f;have n:=aj (o:=.lst [V.str "",V.str "ann7",V.str "0",V.str "guestofthishouse99"]) (am.refl H) g;have c:aA H l (.lst [V.str "",V.str "ann7",V.str "0",V.str "guestofthishouse99"]) l=some (.lst [V.str "",V.str "ann7",V.str "0",V.str "guestofthishouse99"]):=ae;generalize aA H l (.lst [V.str "",V.str "ann7",V.str "0",V.str "guestofthishouse99"])=G at n c⊢
   walk_at "a"
   refine⟨l,_,_,U rfl ⟨rfl,aX.of c,i,aq ?_⟩⟩
   walk_at "a"
   refine⟨_,z.length,rfl,⟨c8 (by lia),rfl⟩,_,U rfl ⟨rfl,r2 ⟨(by show(0:Int)<_;lia),aq ?_⟩⟩⟩;have v:=bu (N/4) (show(0:Int)<(z.length:Int)+1 by lia);have y:=Txt.slice_le z none (some (N/4%((z.length:Int)+1)));have B:=Txt.slice_le z (some (N/4%((z.length:Int)+1))) none;have hok:=Ko z f (N/4%((z.length:Int)+1)).toNat (by rw[q_];lia) ((k+N/160)%36).toNat (by rw[q_];lia);have e:=Mn ((k+N/160)%36).toNat (by rw[q_];lia);rw[show(((N/4%((z.length:Int)+1)).toNat:Nat):Int)=N/4%((z.length:Int)+1)by lia]at hok;rw[show((((k+N/160)%36).toNat:Nat):Int)=(k+N/160)%36 by lia]at e;generalize GC ((k+N/160)%36).toNat=j at*;have m:∀a b:Str,(a++b).length=a.length+b.length:=λa b=>by show(a.cps++b.cps).size=a.cps.size+b.cps.size;exact Array.size_append
   have C:(⟨#[j]⟩:Str).length=1:=rfl
   walk_at "a"
   refine⟨c8 (by lia),?_⟩
   walk_at "a"
   exact⟨"abcdefghijklmnopqrstuvwxyz0123456789",_,j,rfl,rfl,c8 (by decide+kernel),e,_,(⟨#[j]⟩:Str),rfl,rfl,c8 (by lia),U rfl (U rfl ⟨N/4%((z.length:Int)+1),rfl,z,rfl,c8 (by lia),_,U rfl ⟨rfl,c8 (by rw[m];lia),q _ _ n (Lu hok)⟩⟩)⟩
theorem AL(T:Txt K mg a):∀h:Nat,aO P w K mg base dk (h+1) a.eJ.x a.eJ.d ["_law_number","_law_high"] (Jx K h)
 |0=>by
  refine T.eJ.f.ok l9 (λS H Q E h=>?_) (λW A outer s H S Q E e h=>?_)
  ·obtain⟨n,i,rfl,_⟩:=h;rfl
  ·obtain⟨n,i,rfl,h1,h2,_⟩:=h;lia|hh+1=>by
  have G:=AL T hh;refine T.eJ.f.ok l9 (λS H Q E h=>?_) (λW A outer s H S Q E e h=>?_)
  ·obtain⟨n,i,rfl,_⟩:=h;rfl
  ·obtain⟨n,i,rfl,h1,h2,q⟩:=h;refine⟨_,(ag (bg 2 l9.nd (av aQ (Y 0) af)) (ag (bg 3 l9.nd (av bF (Y 0) af)) (ag (bg 4 l9.nd (iX K (bn (ac aB (ac aB (ac aB O)))) (av aQ (Y 3) af))) (ag (aJ (aE aS (Y 2) af (aF _)) (ah (ax (bO (ac aB (ac (Y 4) O))))) aC) (ag (aJ (PW.pt (eC (aE aS (Y 2) af (aF _)) (db (aE aS (Y 2) af (aF _))))) (ah (ax (bO (ac aB (ac (Y 4) (ac (av fq (av aQ (av bF (Y 3) af) af) af) O)))))) aC) (ag (aJ (PW.pt (oA (aE sf (Y 1) af (aF _)) (lH (aE aS (Y 2) af (aF _))))) (ah (ax (bO (ac aB (ac (bw G e rfl T.eJ.m T.eJ.f.kp T.eJ.b .nil bh (ac (Y 3) (ac (av fq (Y 1) af) O))) O))))) aC) (ag (aJ (PW.pt (oA (aE sf (Y 1) af (aF _)) (lH (aE aS (Y 2) af (aF _))))) (ah (ax (bO (ac aB (ac (bw G e rfl T.eJ.m T.eJ.f.kp T.eJ.b .nil bh (ac (Y 3) (ac (av fq (Y 1) af) O))) (ac (bw G e rfl T.eJ.m T.eJ.f.kp T.eJ.b .nil bh (ac (av bF (Y 3) af) (ac (av fq (Y 1) af) O))) O)))))) aC) (ag (aJ (PW.pt (oA (aE sf (Y 1) af (aF _)) (lH (aE aS (Y 2) af (aF _))))) (ah (ax (bO (ac aB (ac (bw G e rfl T.eJ.m T.eJ.f.kp T.eJ.b .nil bh (ac (Y 3) (ac (av fq (Y 1) af) O))) (ac (bw G e rfl T.eJ.m T.eJ.f.kp T.eJ.b .nil bh (ac (av bF (Y 3) af) (ac (av fq (Y 1) af) O))) O)))))) aC) (ah (ax (bO (ac aB O)))))))))))),?_⟩
   have p2:2<=2^(hh+1):=by rw[Ra];have:=Nat.two_pow_pos hh;lia
   walk_at "a"
   refine⟨ls rfl,λl hl=>?_⟩;have b3:=bu (n/10) (show(0:Int)<3 by decide);obtain⟨z,hz,ha⟩:=jp (zs:=Pe) b3.1 b3.2;have v:=aj (o:=.lst [V.str "age",V.str "size",V.str "old"]) (am.refl H) hl;have y:aA H l (.lst [V.str "age",V.str "size",V.str "old"]) l=some (.lst [V.str "age",V.str "size",V.str "old"]):=ae;generalize aA H l (.lst [V.str "age",V.str "size",V.str "old"])=H0 at v y⊢
   walk_at "a"
   refine⟨l,_,_,U rfl ⟨rfl,aX.of y,ha,aq ?_⟩⟩;clear y ha b3;refine Cm (rq ?_ (λN j=>?_))
   rotate_left
   ·walk_at "a"
    refine kS (λe1=>?_) (λe1=>j);exact U rfl ⟨ls rfl,λt c=>q (.has z) _ _ (aj v c) (.has (aW.of ae)) (.has hz) (by show 1<=hh+1;lia) p2⟩
   refine rq ?_ (λN j=>?_)
   rotate_left
   ·have b9:=bu (n/10/3) (show(0:Int)<9 by decide);have ad:=qy;refine U rfl ⟨rfl,U rfl (kS (λ_=>bD ?_) (λ_=>(U rfl ⟨rfl,U rfl (kS (λ_=>?_) (λ_=>j))⟩)))⟩
    all_goals
     walk_at "a"
     exact⟨ls rfl,λt c=>q (.least z _) _ _ (aj v c) (.least (aW.of ae)) (.least hz (by lia) (by lia)) (by show 1<=hh+1;lia) p2⟩
   have X:∀m:Nat,m<2^hh->m+1<2^(hh+1):=λm hm=>by rw[Ra];lia
   have u:∀m k:Nat,m<2^hh->k<2^hh->m+k+1<2^(hh+1):=λm k hm hk=>by rw[Ra];lia
   refine rq ?_ (λN j=>?_)
   rotate_left
   ·refine U rfl (r2 (U rfl (ko (λg=>?_) (λ_=>bV j))));refine U rfl ⟨rfl,U rfl (kS (λ_=>?_) (λ_=>j))⟩;refine U rfl (U rfl (r2 ⟨n/10,i-1,rfl,by lia,by lia,λr R H1 I e J h3 h4=>⟨ls rfl,λt c=>?_⟩⟩));exact q (.not r) _ _ (aj (v.trans I) c) (.not (aW.of ae) (e.kp (.of (aj (am.refl _) c)))) (.not J) (by show r.hgt+1<=hh+1;exact wr h3) (X _ h4)
   refine rq ?_ (λN j=>?_)
   rotate_left
   ·refine U rfl (r2 (U rfl (ko (λg=>?_) (λ_=>bV j))));refine U rfl ⟨rfl,U rfl (kS (λ_=>?_) (λ_=>j))⟩;refine U rfl (U rfl (r2 ⟨n/10,i-1,rfl,by lia,by lia,λr R H1 I e J h3 h4=>?_⟩));refine U rfl (r2 ⟨⟨by decide,by decide⟩,U rfl (r2 ⟨n/10/40,i-1,rfl,by lia,by lia,λp B Z L C D aa F=>⟨ls rfl,λt c=>?_⟩⟩)⟩);have M:=aj (o:=.tup [.str "both",R,B]) (am.refl Z) c;exact q (.both r p) _ _ (aj ((v.trans I).trans L) c) (.both (aW.of ae) ((e.kp (.of L)).kp (.of M)) (C.kp (.of M))) (.both J D) (by show max r.hgt p.hgt+1<=hh+1;lia) (by rw[show(Ru.both r p).cnt=r.cnt+p.cnt+1 from tA (·+1) kt];exact u _ _ h4 F)
   refine rq ?_ (λN j=>?_)
   rotate_left
   ·refine U rfl (r2 (U rfl (ko (λg=>?_) (λ_=>bV j))));refine U rfl ⟨rfl,U rfl (kS (λ_=>?_) (λ_=>j))⟩;refine U rfl (U rfl (r2 ⟨n/10,i-1,rfl,by lia,by lia,λr R H1 I e J h3 h4=>?_⟩));refine U rfl (r2 ⟨⟨by decide,by decide⟩,U rfl (r2 ⟨n/10/40,i-1,rfl,by lia,by lia,λp B Z L C D aa F=>⟨ls rfl,λt c=>?_⟩⟩)⟩);have M:=aj (o:=.tup [.str "either",R,B]) (am.refl Z) c;exact q (.either r p) _ _ (aj ((v.trans I).trans L) c) (.either (aW.of ae) ((e.kp (.of L)).kp (.of M)) (C.kp (.of M))) (.either J D) (by show max r.hgt p.hgt+1<=hh+1;lia) (by rw[show(Ru.either r p).cnt=r.cnt+p.cnt+1 from tA (·+1) kt];exact u _ _ h4 F)
   exact⟨ls rfl,λt c=>q .any _ _ (aj v c) (.any (aW.of ae)) .any (by show 1<=hh+1;lia) p2⟩
end
def Co(m:Int)(j:Nat):Str:=Pe.getD (((j:Int)+m)%3).toNat "age"
def M5:List Str:=["marka","markb","markc","markd","marke"]
def Kk(m:Int):Co m=Co (m%3):=by
 funext j
 unfold Co;rw[Int.add_emod,Int.add_emod (j:Int) (m%3),Int.emod_emod]
def Hn(m:Int):(M5++(List.range 3).map (Co m)).Nodup/\∀z∈M5++(List.range 3).map (Co m),Nw z=true:=by rw[Kk];have b:=bu m (show(0:Int)<3 by decide);rcases(by lia:m%3=0\/m%3=1\/m%3=2)with e|e|e<;>rw[e]<;>decide+kernel
def MI{m:Int}{j:Nat}:we [V.str "age",V.str "size",V.str "old"] ((0+(j:Int)+m)%3)=some (V.str (Co m j)):=by rw[Int.zero_add];have b:=bu ((j:Int)+m) (show(0:Int)<3 by decide);unfold Co;rcases(by lia:((j:Int)+m)%3=0\/((j:Int)+m)%3=1\/((j:Int)+m)%3=2)with e|e|e<;>rw[e]<;>rfl
def NI(K:R7)(H:Hp)(v:V)(m:Str×Int):Prop:=∃b,v=.ref b/\aW K H b [.str m.1,.int m.2]
def su(e:Kp H H')(h:Paired (NI K H) c d):Paired (NI K H') c d:=Paired.mapP h λv m⟨b,h1,h2⟩=>⟨b,h1,e.tq h2⟩
def OA{a:Addr}{c:List V}{d:List (Str×Int)}(h:Paired (NI K H) c d)(e:aW K H a c):tS K H d (.ref a):=⟨a,c,rfl,e,Paired.length h,λi m hm=>by obtain⟨v,h1,b,rfl,h2⟩:=yG h i m hm;exact⟨b,h1,h2⟩⟩
def pS{ns:Sh}{i:Int}(h0:0<=i)(h1:i<(ns.length:Int)):∃z∈ns,we (ns.map V.int) i=some (V.int z):=by obtain⟨v,b,hm⟩:=BE (xs:=ns.map V.int) h0 (by rw[c_];exact h1);obtain⟨z,c,rfl⟩:=nk.mp hm;exact⟨z,c,b⟩
def DM:List (Str×Int):=[("marka",-2),("markb",-1),("markc",0),("markd",1),("marke",2)]
def Id:∀j∈List.range 5,we ("abcde":Str).cps.toList (0+(j:Int))=some (97+j)/\DM[j]?=some (("mark":Str)++(⟨#[97+j]⟩:Str),0+(j:Int)-2):=by decide+kernel
inductive Gd(K:R7)(vs:List V)(H:Hp)(Q:VK)(_E:XK):Prop|mk(n:Int)(_:vs=[.int n])(_:∀(t:Addr)(ms:List (Str×Int))H',am H H'->tS K H' ms (.ref t)->(∀m∈ms,Wd m.1/\-c5<=m.2/\m.2<=c5)->(ms.map Prod.fst).Nodup->ms.length<=8->Q (.ref t) H')
section
def EL(T:Txt K mg a):aO P w K mg base dk 2 a.rZ.x a.rZ.d ["_law_number"] (Gd K):=by
 refine T.rZ.ok kH λbc A outer s H r Q E hr h=>?_
 ·obtain⟨n,rfl,q⟩:=h;refine⟨_,(ag (bg 1 kH.nd (bn O)) (ag (dy o_ rfl (cP rfl T.dP (ac af O)) (qK 2 kH.nd) (ah (aJ (aE aS (av aQ (av bF (Y 0) (iX K (bn (ac af (ac af (ac af O)))) (Y 2))) af) af (aF _)) (ag (bg 3 kH.nd (iX K (bn (ac aB (ac aB (ac aB O)))) (av aQ (av bG (Y 2) (av bF (Y 0) af)) af))) (ah (aR (jk K rfl PySem.F.plainAttrs_list PySem.F.slot_list_append PySem.F.type_list_append eZ (Y 1) (ac (bO (ac (Y 3) (ac (av fq (av aQ (av bF (Y 0) (iX K (bn (ac af (ac af (ac af O)))) (Y 2))) af) af) O))) O))))) aC))) (ag (aJ (aE aS (av aQ (av bF (Y 0) af) af) af (aF _)) (ah (bg 1 kH.nd (av yJ (wc vM [] [2] [2] (ai ph) (cw 2) (cP rfl T.dP (ac af O)) (λcl C s₀ H₀ ex=>⟨(qL vM [] 2),cr,(bO (ac (av jl aB (Au CT aB (Y 2) (λ_ _=>rfl))) (ac (av fq (Y 2) af) O)))⟩)) (Y 1)))) aC) (ah (ax (et (fT K rfl) (by rfl) T.eF L2.bZ (ac (Y 1) O))))))),?_⟩
  refine⟨ls rfl,λl hl=>?_⟩;have s0:=aj (o:=.lst []) (am.refl H) hl;refine aq ⟨3,rfl,by lia,by lia,?_⟩;refine gH (lo:=0) (n:=3) (λi S H'=>am H H'/\(Li λ(g:List (Str×Int))(r:List V)=>An5 (H' l=some (.lst r)) (Paired (NI K H') r g) ((g.map (·.1)).Sublist ((List.range i).map (Co (n/8)))) ((∀m∈g,-100<=m.2/\m.2<=100)) (Li λW X=>S=[some (.int n),some (.ref l),W,X]))) ⟨s0,[],[],ae,.nil,List.nil_sublist _,(λm hm=>nomatch hm),_,_,rfl⟩ ?_ ?_
  ·rintro i S Z hi⟨s1,g,r,hL,G,b,hb,W,X,rfl⟩;refine aq ?_
   walk_at "a"
   refine⟨ls rfl,λl1 as=>?_⟩;have f:=aj (o:=.lst [V.int 1,V.int 2,V.int 4]) (am.refl Z) as;have u:aA Z l1 (.lst [V.int 1,V.int 2,V.int 4]) l1=some (.lst [V.int 1,V.int 2,V.int 4]):=ae;generalize aA Z l1 (.lst [V.int 1,V.int 2,V.int 4])=I at f u⊢;obtain⟨d,hd,ha⟩:=pS (ns:=[1,2,4]) (i:=0+(i:Int)) (by lia) (by show _<(3:Int);lia);have bi:d=1\/d=2\/d=4:=by simpa using hd
   refine U rfl ⟨l1,_,_,U rfl ⟨rfl,aX.of u,ha,_,U rfl ⟨rfl,⟨by lia,by lia⟩,_,U rfl ⟨rfl,(show(0:Int)<2 by decide),rfl,U rfl ?_⟩⟩⟩⟩;refine kS (λ_=>?_) (λ_=>?_)
   ·refine⟨ls rfl,λl2 a0=>?_⟩;have J:=aj (o:=.lst [V.str "age",V.str "size",V.str "old"]) (am.refl I) a0;have v:aA I l2 (.lst [V.str "age",V.str "size",V.str "old"]) l2=some (.lst [V.str "age",V.str "size",V.str "old"]):=ae;generalize aA I l2 (.lst [V.str "age",V.str "size",V.str "old"])=H3 at J v⊢
    walk_at "a"
    refine⟨l2,_,_,U rfl ⟨rfl,aX.of v,MI,aq ?_⟩⟩;have a2:=J _ _ (f _ _ hL);refine U rfl ⟨.inl ⟨rfl,_,aX.of a2⟩,U rfl (U rfl ⟨ls rfl,λl3 a3=>?_⟩)⟩;have s4:=aj (o:=.lst [V.int 24,V.int 240,V.int 2400]) (am.refl H3) a3;have y:aA H3 l3 (.lst [V.int 24,V.int 240,V.int 2400]) l3=some (.lst [V.int 24,V.int 240,V.int 2400]):=ae;generalize aA H3 l3 (.lst [V.int 24,V.int 240,V.int 2400])=H4 at s4 y⊢;obtain⟨k,a5,a6⟩:=pS (ns:=[24,240,2400]) (i:=0+(i:Int)) (by lia) (by show _<(3:Int);lia);have bb:k=24\/k=240\/k=2400:=by simpa using a5
    have bj:=bu (n/k) (show(0:Int)<10 by decide);refine U rfl ⟨l3,_,_,U rfl ⟨rfl,aX.of y,a6,_,U rfl ⟨rfl,⟨by lia,by lia⟩,_,U rfl ⟨rfl,(show(0:Int)<10 by decide),_,U rfl ⟨rfl,ls rfl,λt ht=>?_⟩⟩⟩⟩⟩;have s5:=aj (o:=.tup [.str (Co (n/8) i),.int (n/k%10-5)]) (am.refl H4) ht;have aa:aA H4 t (.tup [.str (Co (n/8) i),.int (n/k%10-5)]) t=some (.tup [.str (Co (n/8) i),.int (n/k%10-5)]):=ae;have s6:am Z (aA H4 t (.tup [.str (Co (n/8) i),.int (n/k%10-5)])):=((f.trans J).trans s4).trans s5;generalize aA H4 t (.tup [.str (Co (n/8) i),.int (n/k%10-5)])=H5 at s6 aa⊢;have ad:=s6 _ _ hL;have a7:=Paired.length G;have L:=b.length_le;rw[c_,c_,rd]at L;refine rA ad (by rw[lm];lia) ⟨bR (s1.trans s6) hl,g++[(Co (n/8) i,n/k%10-5)],_,ae,?_,?_,λm hm=>?_,_,_,rfl⟩
    ·exact su (.lst ad) (Paired.snoc (su (.of s6) G) ⟨t,rfl,aW.of aa⟩)
    ·rw[k_,Ri,k_];exact b.append (RJ _)
    ·rcases List.mem_append.mp hm with z|z
     ·exact hb m z
     ·rw[List.mem_singleton.mp z];show-100<=n/k%10-5/\n/k%10-5<=100;lia
   ·refine⟨s1.trans f,g,r,f _ _ hL,su (.of f) G,?_,hb,_,_,rfl⟩;rw[Ri,k_];exact b.trans (List.sublist_append_left _ _)
  ·rintro S Z⟨s1,g,r,hL,G,b,hb,W,X,rfl⟩
   walk_at "a"
   refine LC (λS H'=>am H H'/\(Pn λ(l':Addr)(g:List (Str×Int))(r:List V)=>An5 (H' l'=some (.lst r)) (Paired (NI K H') r g) ((g.map (·.1)).Sublist (M5++(List.range 3).map (Co (n/8)))) ((∀m∈g,-100<=m.2/\m.2<=100)) (Li λW X=>S=[some (.int n),some (.ref l'),W,X]))) ?A (λN hJ=>?B)
   case B=>
    refine kS (λ_=>?_) (λ_=>hJ _ _ ⟨s1,l,g,r,hL,G,b.trans (List.sublist_append_right _ _),hb,_,_,rfl⟩);refine⟨5,rfl,by lia,by lia,λD hD=>?_⟩;refine eO (K:=K) (lo:=0) (n:=5) (λj p H'=>am Z H'/\H' D=some (.lst p)/\Paired (NI K H') p (DM.take j)) ⟨aj (am.refl _) hD,ae,.nil⟩ ?_ ?_
    ·rintro j p I hj⟨f,M,c⟩;obtain⟨e1,e2⟩:=Id j (q_.mpr hj);have R:=Paired.length c;rw[oe]at R;refine aq (j3 (bD ?_));refine U rfl ⟨"abcde",_,97+j,rfl,rfl,c8 (by decide+kernel),e1,"mark",(⟨#[97+j]⟩:Str),rfl,rfl,c8 (show 4+1<=65536 by decide),U rfl (r2 ⟨ls rfl,λt ht=>?_⟩)⟩;have J:=aj (o:=.tup [.str (("mark":Str)++(⟨#[97+j]⟩:Str)),.int (0+(j:Int)-2)]) (am.refl I) ht;have al:=J _ _ M;refine⟨al,by rw[lm];lia,lf hj ⟨bR (f.trans J) hD,ae,?_⟩⟩;rw[dI e2];exact su (.lst al) (Paired.snoc (su (.of J) c) ⟨t,rfl,aW.of ae⟩)
    ·rintro p I⟨f,M,c⟩;have R:=Paired.length c;have a7:=Paired.length G;have L:=b.length_le;rw[c_,c_,rd]at L;refine U rfl ⟨D,l,_,U rfl ⟨rfl,M,f _ _ hL,by rw[lm];have:p.length=5:=R;lia,λl' an=>aq (hJ _ _ ⟨aj (s1.trans f) an,l',DM++g,_,ae,su (.new an) (Ce c (su (.of f) G)),?_,λm hm=>?_,_,_,rfl⟩)⟩⟩
     ·rw[k_];exact(RJ _).append b
     ·rcases List.mem_append.mp hm with z|z
      ·exact(by decide:∀m∈DM,-100<=m.2/\m.2<=100) m z
      ·exact hb m z
   case A=>rintro S I⟨f,l',a8,bl,ba,c,e,ap,W,X,rfl⟩;refine U rfl ⟨l',U rfl (.inl ⟨aX.of ba,λt ht=>?_⟩)⟩;obtain⟨m1,m2⟩:=Hn (n/8);have bt:=qy;exact q t a8 _ (aj f ht) (OA (su (.new ht) c) (aW.of ae)) (λm hm=>⟨zV (m2 _ (e.subset (nk.mpr ⟨m,hm,rfl⟩))),by have:=ap m hm;lia,by have:=ap m hm;lia⟩) (e.nodup m1) (by have:=e.length_le;rw[c_]at this;exact this)
end
def zL(p:Nat):Prop:=p∈[2,3,5,7,11,13]
def zL.le{p:Nat}(h:zL p):2<=p/\p<=13:=(by decide:∀p∈[2,3,5,7,11,13],2<=p/\p<=13) p h
structure BR where
 pl:Addr
 L:Addr
 T:Addr
def FK(K:R7)(H:Hp)(v:V)(t:Str×Nat):Prop:=∃b,v=.ref b/\aW K H b [.str t.1,.int t.2]
def FK.kp(e:Kp H H')(h:Paired (FK K H) c d):Paired (FK K H') c d:=Paired.mapP h λv m⟨b,h1,h2⟩=>⟨b,h1,e.tq h2⟩
structure pV(K:R7)(H:Hp)(p:Nat)(sa:Int)(ns:Sc)(ts:List (Str×Nat))(A:BR):Prop where
 pl:H A.pl=some (.lst [.int p,.int sa,.ref A.L,.ref A.T])L:H A.L=some (.lst (ns.map V.str))T:∃us,H A.T=some (.lst us)/\Paired (FK K H) us ts
 n1:A.pl≠A.L
 n2:A.pl≠A.T
 n3:A.L≠A.T
def pV.same(h:pV K H p sa ns c A)(e:am H H'):pV K H' p sa ns c A:=let⟨b,h1,h2⟩:=h.T
 ⟨e _ _ h.pl,e _ _ h.L,⟨b,e _ _ h1,FK.kp (.of e) h2⟩,h.n1,h.n2,h.n3⟩
inductive JB(K:R7)(vs:List V)(H:Hp)(Q:VK)(_E:XK):Prop|mk(sc:Addr)(ns:Sh)(_:vs=[.ref sc])(_:aX K H sc (ns.map V.int))(_:ns.length<=63)(_:∀(A:BR)(p:Nat)(sa:Int)H',am H H'->H A.pl=none->H A.L=none->H A.T=none->pV K H' p sa [] [] A->zL p->(0<=sa/\sa<=c5)->Q (.ref A.pl) H')
section
def G0(T:Txt K mg a):aO P w K mg base dk 3 a.x9.x a.x9.d ["_law_script"] (JB K):=by
 refine T.x9.ok uI λF A outer s H J Q E u h=>?_
 ·obtain⟨v,ns,rfl,y,B,q⟩:=h;have G:=xq;refine⟨_,(ag (bg 1 uI.nd (pc T.dX (cH T) u (ac (Y 0) (ac af (ac af O))))) (ag (bg 2 uI.nd (iX K (bn (ac af (ac af (ac af (ac af (ac af (ac af (ac af (ac af O))))))))) (av aQ (Y 1) af))) (ah (ax (bn (ac (Y 2) (ac (av aQ (pc T.jv (sr T) u (ac (Y 0) (ac af O))) (av bG (av uU af af) af)) (ac (bn O) (ac (bn O) O))))))))),?_⟩
  refine U rfl ⟨v,ns,0,1,rfl,y,B,⟨by decide,by decide⟩,⟨by decide,by decide⟩,aq ?_⟩;generalize bY ns 0 1=x;have l:=bu x (show(0:Int)<8 by decide);refine⟨ls rfl,λi m=>?_⟩;have f:=aj (o:=.lst [V.int 2,V.int 3,V.int 5,V.int 7,V.int 11,V.int 13,V.int 7,V.int 5]) (am.refl H) m;have e:aA H i (.lst [V.int 2,V.int 3,V.int 5,V.int 7,V.int 11,V.int 13,V.int 7,V.int 5]) i=some (.lst [V.int 2,V.int 3,V.int 5,V.int 7,V.int 11,V.int 13,V.int 7,V.int 5]):=ae;generalize aA H i (.lst [V.int 2,V.int 3,V.int 5,V.int 7,V.int 11,V.int 13,V.int 7,V.int 5])=j at f e⊢;obtain⟨p,C,g⟩:=pS (ns:=[2,3,5,7,11,13,7,5]) l.1 l.2
  walk_at "a"
  refine⟨i,_,_,U rfl ⟨rfl,aX.of e,g,aq ?_⟩⟩;have r:zL p.toNat/\0<=p:=(by unfold zL;decide:∀p∈[(2:Int),3,5,7,11,13,7,5],zL p.toNat/\0<=p) p C;obtain⟨pn,rfl⟩:∃n:Nat,p=n:=⟨p.toNat,by lia⟩;clear C g e l;refine U rfl (U rfl ⟨v,ns,1,rfl,f.seq y,B,?_⟩);generalize xT ns 1=c;have I:=bu c (show(0:Int)<c5+1 by lia)
  walk_at "a"
  refine⟨ls rfl,λL t=>⟨ls rfl,λT k=>⟨ls rfl,λpl b=>?_⟩⟩⟩;have n3:L≠T:=λz=>by rw[<-z,ae]at k;cases k
  have n2:pl≠T:=λz=>by rw[z,ae]at b;cases b
  have n1:pl≠L:=λz=>by rw[z,ak n3,ae]at b;cases b
  have D:am j (aA (aA j L (.lst [])) T (.lst [])):=aj (aj (am.refl j) t) k;exact q ⟨pl,L,T⟩ pn _ _ (f.trans (aj D b)) ((f.trans D).free b) (f.free t) ((f.trans (aj (am.refl j) t)).free k) ⟨ae,by show aA _ _ _ L=_;rw[ak (pv n1),ak n3,ae];rfl,⟨[],by show aA _ _ _ T=_;rw[ak (pv n2),ae],.nil⟩,n1,n2,n3⟩ r.1 ⟨I.1,by lia⟩
end
def iw(M:cy):List Str:=M.las.map cR.nm
def iL(M:cy):List (Str×Nat):=M.trs.map λt=>(t.nm,t.arms.length)
def A9(M:cy):Dd->List Str|.layer nm _=>iw M++[nm]|_=>iw M
def xo(M:cy):Dd->List (Str×Nat)|.trial x=>iL M++[(x.nm,x.arms.length)]|_=>iL M
def fi(ns:Sh)(m:Nat):List Str:=(List.range m).map λ(j:Nat)=>bU j (bY ns 3 4)
def IN(ns:Sh)(h:m<=4):(fi ns m).length=m/\(fi ns m).Nodup/\∀x∈fi ns m,Wd x:=by
 refine⟨by unfold fi;rw[c_,rd],?_,λx c=>?_⟩
 ·refine List.pairwise_iff_getElem.mpr λi j hi b d e=>?_;unfold fi at e hi b;rw[c_,rd]at hi b;rw[RT,RT,List.getElem_range,List.getElem_range]at e;have:=qv ⟨by lia,by lia⟩ ⟨by exact tx _,by lia⟩ e;lia
 ·obtain⟨j,_,rfl⟩:=nk.mp c;exact ue _ _
structure nK(ns:Sh)(M:cy):Prop where
 ln:∀(i:Nat)(l:cR),M.las[i]?=some l->l.nm=bU i (bY ns 1 2)/\l.sl=(bY ns 2 2+i)%((M.p:Int)+1)tn:∀(j:Nat)(t:eh),M.trs[j]?=some t->t.nm=bU j (bY ns 2 3)/\t.arms=fi ns t.arms.length
 lp:M.las.length<=M.p+1
 pr:zL M.p
def Nm(ns:Sh)(M:cy):Dd->Prop|.layer nm sl=>nm=bU M.las.length (bY ns 1 2)/\sl=(bY ns 2 2+M.las.length)%((M.p:Int)+1)/\M.las.length<M.p+1|.trial x=>x.nm=bU M.trs.length (bY ns 2 3)/\x.arms=fi ns x.arms.length|.deal _ z b=>z<=100/\∀x∈b,x<=9|_=>True
def Po(A:BR)(H H':Hp):Prop:=∃o,(o=A.L\/o=A.T)/\Kp H H'/\∀b ob,H b=some ob->b≠o->H' b=some ob
theorem Po.of(s:am H H'):Po A H H':=⟨A.L,.inl rfl,.of s,λb o h _=>s b o h⟩
def jF(K:R7)(ns:Sh)(M:cy)(A:BR)(H:Hp)(Q:VK):Prop:=∀(b:Addr)(d:Dd)(c:List V)(H':Hp),Po A H H'->aW K H' b c->mM K H' M d c->pV K H' M.p M.salt (A9 M d) (xo M d) A->Nm ns M d->(M.trs.length=0->d.adds=true)->Q (.ref b) H'
def jF.same(h:jF K ns M A H Q)(s:am H c):jF K ns M A c Q:=λe d f H'⟨o,h1,h2,h3⟩=>h e d f H' ⟨o,h1,Kp.trans (.of s) h2,λb ob g=>h3 b ob (s b ob g)⟩
structure tU(K:R7)(H:Hp)(sc:Addr)(ns:Sh)(M:cy)(A:BR)(c:Nat):Prop where
 sq:aX K H sc (ns.map V.int)len:ns.length<=63
 pl:pV K H M.p M.salt (iw M) (iL M) A
 ok:nM M c
 pn:nK ns M
 n4:∀H',(∀b ob,H b=some ob->b≠A.L->H' b=some ob)->aX K H' sc (ns.map V.int)
theorem tU.same(h:tU K H d ns M A c)(s:am H H'):tU K H' d ns M A c:=⟨s.seq h.sq,h.len,h.pl.same s,h.ok,h.pn,λf g=>h.n4 f λb ob e n=>g b ob (s b ob e) n⟩
def pV.addL(h:pV K H p sa ns c A)(x:Str):pV K (aA H A.L (.lst (ns.map V.str++[.str x]))) p sa (ns++[x]) c A:=let⟨b,h1,h2⟩:=h.T
 ⟨by rw[ak h.n1];exact h.pl,by rw[ae,k_];rfl,⟨b,by rw[ak (pv h.n3)];exact h1,FK.kp (.lst h.L) h2⟩,h.n1,h.n2,h.n3⟩
def pV.addT(h:pV K H p sa ns c A)(h1:H A.T=some (.lst d))(h2:Paired (FK K H) d c)(e:aW K H b [.str x.1,.int x.2]):pV K (aA H A.T (.lst (d++[.ref b]))) p sa ns (c++[x]) A:=⟨by rw[ak h.n2];exact h.pl,by rw[ak h.n3];exact h.L,⟨_,ae,FK.kp (.lst h1) (Paired.snoc h2 ⟨b,rfl,e⟩)⟩,h.n1,h.n2,h.n3⟩
inductive L9(K:R7)(vs:List V)(H:Hp)(Q:VK)(_E:XK):Prop|mk(sc:Addr)(ns:Sh)(M:cy)(A:BR)(c:Nat)(_:vs=[.ref sc,.ref A.pl])(_:tU K H sc ns M A c)(_:M.las.length<4)(_:M.las.length<M.p+1)(_:jF K ns M A H Q)
def Ew(h:nK ns M)(c:M.las.length<M.p+1):(bY ns 2 2+M.las.length)%((M.p:Int)+1)∉M.las.map cR.sl:=λz=>by obtain⟨l,hm,e⟩:=nk.mp z;obtain⟨i,hi⟩:=m3.mp hm;have b:=(d_.mp hi).1;rw[(h.ln i l hi).2]at e;have h1:((bY ns 2 2+M.las.length)-(bY ns 2 2+i))%((M.p:Int)+1)=0:=Int.emod_eq_emod_iff_emod_sub_eq_zero.mp e.symm;rw[show(bY ns 2 2+(M.las.length:Int))-(bY ns 2 2+i)=((M.las.length-i:Nat):Int)by lia,RK (by lia) (by lia)]at h1;lia
def EV(h:nK ns M)(c:M.las.length<4):bU M.las.length (bY ns 1 2)∉M.las.map cR.nm:=λz=>by obtain⟨l,hm,e⟩:=nk.mp z;obtain⟨i,hi⟩:=m3.mp hm;have b:=(d_.mp hi).1;rw[(h.ln i l hi).1]at e;have:=qv ⟨by lia,by lia⟩ ⟨by lia,by lia⟩ e;lia
def Eh(h:nK ns M)(c:M.trs.length<10):bU M.trs.length (bY ns 2 3)∉M.trs.map eh.nm:=λz=>by obtain⟨t,hm,e⟩:=nk.mp z;obtain⟨i,hi⟩:=m3.mp hm;have b:=(d_.mp hi).1;rw[(h.tn i t hi).1]at e;have:=qv ⟨by lia,by lia⟩ ⟨by lia,by lia⟩ e;lia
section
def wJ(T:Txt K mg a):aO P w K mg base dk 3 a.gQ.x a.gQ.d ["_law_script","_law_plan_here"] (L9 K):=by
 refine T.gQ.ok j6 λC A outer s H I Q E r h=>?_
 ·obtain⟨z,ns,M,A,c,rfl,g,h4,B,q⟩:=h;refine⟨_,(ag (bg 2 j6.nd (ay (aH K rfl) (by rfl) T.bE L2.aI (ac (iX K (Y 1) af) O))) (ag (bg 3 j6.nd (pc T.pX (px T) r (ac (Y 2) (ac (pc T.dX (cH T) r (ac (Y 0) (ac af (ac af O)))) O)))) (ag (aR (jk K rfl PySem.F.plainAttrs_list PySem.F.slot_list_append PySem.F.type_list_append eZ (iX K (Y 1) af) (ac (Y 3) O))) (ah (ax (bO (ac aB (ac (Y 3) (ac (av aQ (av bG (pc T.dX (cH T) r (ac (Y 0) (ac af (ac af O)))) (Y 2)) (av bG (iX K (Y 1) af) af)) O))))))))),?_⟩
  have t:=g.pl;have j:(iw M).length=M.las.length:=c_ _;refine U rfl (rX (aX.of t.pl) (ao (k:=2) rfl) ⟨_,M.las.length,rfl,.inl ⟨_,aX.of t.L,by rw[c_,j]⟩,aq ?_⟩);refine U rfl (U rfl ⟨z,ns,1,2,rfl,g.sq,g.len,⟨by decide,by decide⟩,⟨by decide,by decide⟩,(M.las.length:Int),bY ns 1 2,rfl,λl m=>aq ?_⟩);have f:=t.same m;refine U rfl (rX (aX.of f.pl) (ao (k:=2) rfl) ⟨.inl ⟨rfl,_,aX.of f.L⟩,U rfl (rA f.L (by rw[c_,j,lm];lia) ?_)⟩);have i:=f.addL (bU M.las.length (bY ns 1 2));have kp:Kp l (aA l A.L (.lst ((iw M).map V.str++[.str (bU M.las.length (bY ns 1 2))]))):=.lst f.L;have u:∀b ob,l b=some ob->b≠A.L->aA l A.L (.lst ((iw M).map V.str++[.str (bU M.las.length (bY ns 1 2))])) b=some ob:=λb ob e n=>by rw[ak n];exact e
  generalize aA l A.L (.lst ((iw M).map V.str++[.str (bU M.las.length (bY ns 1 2))]))=D at i kp u⊢;have bs:=bu (bY ns 2 2+M.las.length) (show(0:Int)<(M.p:Int)+1 by lia);refine U rfl (U rfl ⟨z,ns,2,2,rfl,(g.same m).n4 _ u,g.len,⟨by decide,by decide⟩,⟨by decide,by decide⟩,U rfl (r2 (U rfl (rX (aX.of i.pl) (ao (k:=0) rfl) (r2 (r2 ⟨by show(0:Int)<(M.p:Int)+1;lia,ls rfl,λG v=>?_⟩)))))⟩);have y:=aj (o:=.tup [.str "layer",.str (bU M.las.length (bY ns 1 2)),.int ((bY ns 2 2+M.las.length)%((M.p:Int)+1))]) (am.refl D) v;exact q G (.layer _ _) _ _ ⟨A.L,.inl rfl,Kp.trans (.of m) (Kp.trans kp (.of y)),λb ob e n=>y _ _ (u b ob (m _ _ e) n)⟩ (aW.of ae) (.layer (ue _ _) (EV g.pn h4) ⟨bs.1,by lia⟩ (Ew g.pn B) h4) (i.same y) ⟨rfl,rfl,B⟩ λ_=>rfl
end
inductive L8(K:R7)(vs:List V)(H:Hp)(Q:VK)(_E:XK):Prop|mk(sc:Addr)(ns:Sh)(M:cy)(A:BR)(c:Nat)(n:Int)(_:vs=[.ref sc,.ref A.pl,.int n])(_:tU K H sc ns M A c)(_:M.trs.length<10)(_:0<M.las.length)(_:jF K ns M A H Q)
section
def wI(T:Txt K mg a):aO P w K mg base dk 5 a.gP.x a.gP.d ["_law_script","_law_plan_here","_law_number"] (L8 K):=by
 refine T.gP.ok cM λc4 A outer s H vs Q E N h=>?_
 ·obtain⟨sc,ns,M,A,c,n,rfl,R,h10,da,q⟩:=h;refine⟨_,(ag (bg 3 cM.nd (ay (aH K rfl) (by rfl) T.bE L2.aI (ac (iX K (Y 1) af) O))) (ag (bg 4 cM.nd (pc T.pX (px T) N (ac (Y 3) (ac (pc T.dX (cH T) N (ac (Y 0) (ac af (ac af O)))) O)))) (ag (bg 5 cM.nd (iX K (iX K (Y 1) af) (av aQ (Y 2) (ay (aH K rfl) (by rfl) T.bE L2.aI (ac (iX K (Y 1) af) O))))) (ag (bg 6 cM.nd (et (fT K rfl) (by rfl) T.eF L2.bZ (ac (wc lO [] [9] [9] (ai iQ) (cw 9) (cP rfl T.dP (ac (av bG af (av aQ (av bF (Y 2) af) af)) O)) (λcl C s₀ H₀ ex=>⟨(qL lO [] 9),cr,(pc T.pX (px T) N (ac (Y 9) (ac (pc T.dX (cH T) N (ac (Y 0) (ac af (ac af O)))) O)))⟩)) O))) (ag (bg 7 cM.nd (bn O)) (ag (bg 8 cM.nd (pc T.dX (cH T) N (ac (Y 0) (ac (av bG af (Y 3)) (ac af O))))) (ag (dy o_ rfl (cP rfl T.dP (ac (ay (rL rfl) (by rfl) T.Hb L2.vF (ac af (ac (Y 3) O))) O)) (qK 9 cM.nd) (ah (aJ (aE aS (av aQ (av bF (Y 8) (iX K (bn (ac af (ac af (ac af (ac af (ac af (ac af (ac af (ac af O))))))))) (Y 9))) af) af (aF _)) (ah (aR (jk K rfl PySem.F.plainAttrs_list PySem.F.slot_list_append PySem.F.type_list_append eZ (Y 7) (ac (df K (iX K (iX K (Y 1) af) (av fq (av fq (Y 3) af) (Y 9))) af) O)))) aC))) (ag (aR (jk K rfl PySem.F.plainAttrs_list PySem.F.slot_list_append PySem.F.type_list_append eZ (iX K (Y 1) af) (ac (bO (ac (Y 4) (ac (ay (aH K rfl) (by rfl) T.bE L2.aI (ac (Y 6) O)) O))) O))) (ah (ax (bO (ac aB (ac (Y 4) (ac (Y 5) (ac (Y 6) (ac (bw ((AL T 3).mono (by decide)) N rfl T.eJ.m T.eJ.f.kp T.eJ.b .nil bh (ac (av bF (Y 2) af) (ac af O))) (ac (et (fT K rfl) (by rfl) T.eF L2.bZ (ac (Y 7) O)) O))))))))))))))))),?_⟩
  have hP:=R.pl;have dc:(iw M).length=M.las.length:=c_ _;have b0:(iL M).length=M.trs.length:=c_ _;have l4:=R.ok.l4;obtain⟨us,an,ap⟩:=hP.T;have as:=Paired.length ap;rw[b0]at as;refine U rfl (rX (aX.of hP.pl) (ao (k:=3) rfl) ⟨_,M.trs.length,rfl,.inl ⟨_,aX.of an,by rw[as]⟩,aq ?_⟩);refine U rfl (U rfl ⟨sc,ns,2,3,rfl,R.sq,R.len,⟨by decide,by decide⟩,⟨by decide,by decide⟩,(M.trs.length:Int),bY ns 2 3,rfl,λH1 s1=>aq ?_⟩);have p:=R.same s1;have bl:=bu n (show(0:Int)<((iw M).length:Int)by lia);obtain⟨hm,b8,b9⟩:=jp bl.1 bl.2;refine U rfl (rX (aX.of p.pl.pl) (ao (k:=2) rfl) (U rfl (U rfl (rX (aX.of p.pl.pl) (ao (k:=2) rfl) ⟨_,(iw M).length,rfl,.inl ⟨_,aX.of p.pl.L,by rw[c_]⟩,_,U rfl ⟨rfl,by show(0:Int)<((iw M).length:Int);lia,A.L,_,_,U rfl ⟨rfl,aX.of p.pl.L,b9,aq ?_⟩⟩⟩))));have b4:=bu (n/4) (show(0:Int)<4 by decide)
  walk_at "a"
  refine⟨by lia,by lia,λD hD=>?_⟩;obtain⟨m,cc,a6,em⟩:∃m:Nat,1<=m/\m<=4/\1+n/4%4=(m:Int):=⟨(1+n/4%4).toNat,by lia,by lia,by lia⟩;rw[em];obtain⟨al,a7,aw⟩:=IN ns a6;refine eO (K:=K) (lo:=0) (n:=(m:Int).toNat) (λj S H'=>am H1 H'/\H' D=some (.lst S)/\S=((fi ns m).take j).map V.str) ⟨aj (am.refl _) hD,ae,rfl⟩ ?_ ?_
  ·rintro j S H2 hj⟨s2,G,rfl⟩;rw[show(0:Int)+(j:Int)=((j:Nat):Int)by lia];refine aq (j3 (bD ?_));refine U rfl (U rfl ⟨sc,ns,3,4,rfl,s2.seq p.sq,R.len,⟨by decide,by decide⟩,⟨by decide,by decide⟩,(j:Int),bY ns 3 4,rfl,λH3 s3=>?_⟩);refine⟨s3 _ _ G,by rw[c_,oe,lm];omega,lf hj ⟨bR (s2.trans s3) hD,ae,?_⟩⟩;have e:(fi ns m)[j]?=some (bU (j:Int) (bY ns 3 4)):=by unfold fi;rw[j_,Rx (by exact hj)];rfl
   rw[dI e,k_];rfl
  ·rintro S H2⟨s2,G,rfl⟩;rw[mu (by exact Qo al)]at G;refine⟨D,U rfl (.inl ⟨aX.of G,λar a8=>aq ?_⟩)⟩;have s3:am H1 (aA H2 ar (.tup ((fi ns m).map V.str))):=aj s2 a8;have W:aA H2 ar (.tup ((fi ns m).map V.str)) ar=some (.tup ((fi ns m).map V.str)):=ae;generalize aA H2 ar (.tup ((fi ns m).map V.str))=H3 at s3 W⊢;clear G s2 a8 hD;refine⟨ls rfl,λsl a0=>aq ?_⟩;have s4:=aj (o:=.lst []) s3 a0;have X:=aj (o:=.lst []) (am.refl H3) a0 _ _ W;have ba:=p.same s4;have Z:H1 sl=none:=s3.free a0;have aa:aA H3 sl (.lst []) sl=some (.lst []):=ae;generalize aA H3 sl (.lst [])=H4 at s4 X ba aa⊢;refine U rfl (U rfl (r2 ⟨sc,ns,5+(M.trs.length:Int),7,rfl,ba.sq,R.len,⟨by lia,by lia⟩,⟨by decide,by decide⟩,aq ?_⟩));generalize bY ns (5+(M.trs.length:Int)) 7=mr;have a2:(if(M.trs.length:Int)<8 then(M.trs.length:Int)else 8)=((min 8 M.trs.length:Nat):Int):=by split<;>lia
   refine U rfl ⟨_,U rfl (U rfl ⟨by rw[a2];lia,by rw[a2];lia,?_⟩)⟩;rw[a2];have nd:((M.trs.map eh.nm).reverse).Nodup:=List.pairwise_reverse.mpr (List.Pairwise.imp (λh=>pv h) R.ok.tn);have di:((M.trs.map eh.nm).reverse).length=M.trs.length:=by rw[QI,c_]
   refine gH (lo:=0) (n:=((min 8 M.trs.length:Nat):Int).toNat) (λi σ H'=>am H1 H'/\H' ar=some (.tup ((fi ns m).map V.str))/\∃(B:Sc),H' sl=some (.lst (B.map V.str))/\B.Sublist ((M.trs.map eh.nm).reverse.take i)/\∃v9,σ=[some (.ref sc),some (.ref A.pl),some (.int n),some (.int M.trs.length),some (.str (bU M.trs.length (bY ns 2 3))),some (.str hm),some (.ref ar),some (.ref sl),some (.int mr),v9]) ⟨s4,X,[],aa,List.nil_sublist _,_,rfl⟩ ?_ ?_
   ·rintro i σ H5 hi⟨I,g,B,hz,l,v9,rfl⟩;have dt:i<min 8 M.trs.length:=by exact hi
    refine aq ?_;refine U rfl ⟨ls rfl,λl5 ci=>?_⟩;have u:=aj (o:=.lst [V.int 1,V.int 4,V.int 16,V.int 64,V.int 256,V.int 1024,V.int 4096,V.int 16384]) (am.refl H5) ci;have bb:aA H5 l5 (.lst [V.int 1,V.int 4,V.int 16,V.int 64,V.int 256,V.int 1024,V.int 4096,V.int 16384]) l5=some (.lst [V.int 1,V.int 4,V.int 16,V.int 64,V.int 256,V.int 1024,V.int 4096,V.int 16384]):=ae;generalize aA H5 l5 (.lst [V.int 1,V.int 4,V.int 16,V.int 64,V.int 256,V.int 1024,V.int 4096,V.int 16384])=H6 at u bb⊢;obtain⟨d,hd,ha⟩:=pS (ns:=[1,4,16,64,256,1024,4096,16384]) (i:=0+(i:Int)) (by lia) (by show _<(8:Int);lia);have cF:=(by decide:∀d∈[(1:Int),4,16,64,256,1024,4096,16384],0<d/\d<1073741824) d hd;refine U rfl ⟨l5,_,_,U rfl ⟨rfl,aX.of bb,ha,_,U rfl ⟨rfl,cF,_,U rfl ⟨rfl,(show(0:Int)<4 by decide),rfl,U rfl ?_⟩⟩⟩⟩;have a3:(M.trs.map eh.nm).reverse[i]?=(M.trs.map eh.nm)[M.trs.length-1-i]?:=by rw[List.getElem?_reverse (by rw[c_];lia),c_]
    obtain⟨t,ht⟩:∃t,M.trs[M.trs.length-1-i]?=some t:=⟨_,h_ (by lia)⟩;rw[j_,ht]at a3;refine kS (λ_=>?_) (λ_=>⟨I.trans u,u _ _ g,B,u _ _ hz,by rw[dI a3];exact l.trans (List.sublist_append_left _ _),_,rfl⟩);have c0:=p.pl.same (I.trans u);obtain⟨v,hv,b,rfl,hb⟩:=yG ap (M.trs.length-1-i) (t.nm,t.arms.length) (by unfold iL;rw[j_,ht];rfl);have y:=(s1.trans (I.trans u)) _ _ an;have bc:=u _ _ hz;have a5:=l.length_le;rw[oe]at a5;refine U rfl ⟨.inl ⟨rfl,_,aX.of bc⟩,U rfl (rX (aX.of c0.pl) (ao (k:=3) rfl) (U rfl (r2 (U rfl (r2 ?_)))))⟩;refine rX (aX.of y) (by rw[show(M.trs.length:Int)-1-(0+(i:Int))=((M.trs.length-1-i:Nat):Int)by lia];exact ao hv) (rX (am.tseq (s1.trans (I.trans u)) hb) (ao (k:=0) rfl) ?_);refine rA bc (by rw[c_,lm];lia) ⟨bR (I.trans u) Z,by rw[ak λz=>by rw[z,hz]at g;cases g];exact u _ _ g,B++[t.nm],by rw[ae,k_];rfl,?_,_,rfl⟩;rw[dI a3];exact l.append (RJ _)
   ·rintro σ H5⟨I,g,B,hz,l,v9,rfl⟩;have bi:=p.same I;have c1:=(l.trans (QT _ _)).nodup nd;have a5:=l.length_le;rw[oe]at a5;have J:=(s1.trans I) _ _ an;have bj:=FK.kp (.of (s1.trans I)) ap;refine U rfl (rX (aX.of bi.pl.pl) (ao (k:=3) rfl) ⟨.inl ⟨rfl,_,aX.of J⟩,U rfl (U rfl ⟨_,m,rfl,.inr ⟨_,aW.of g,by rw[c_,al]⟩,ls rfl,λb hb=>?_⟩)⟩);have u:=aj (o:=.tup [.str (bU M.trs.length (bY ns 2 3)),.int m]) (am.refl H5) hb;have bt:aA H5 b (.tup [.str (bU M.trs.length (bY ns 2 3)),.int m]) b=some (.tup [.str (bU M.trs.length (bY ns 2 3)),.int m]):=ae;generalize aA H5 b (.tup [.str (bU M.trs.length (bY ns 2 3)),.int m])=H6 at u bt⊢;have y:=u _ _ J;refine rA y (by rw[as,lm];lia) ?_;have bv:=(bi.pl.same u).addT y (FK.kp (.of u) bj) (x:=(bU M.trs.length (bY ns 2 3),m)) (aW.of bt);have kp:Kp H6 (aA H6 A.T (.lst (us++[.ref b]))):=.lst y;have hk:∀d ob,H6 d=some ob->d≠A.T->aA H6 A.T (.lst (us++[.ref b])) d=some ob:=λd ob e n=>by rw[ak n];exact e
    generalize aA H6 A.T (.lst (us++[.ref b]))=H7 at bv kp hk⊢;have nT:∀{d:Addr},H1 d=none->d≠A.T:=λh z=>by rw[z,p.pl.T.choose_spec.1]at h;cases h
    have bz:=hk _ _ (u _ _ g) (λz=>by rw[z,J]at g;cases g);have c2:=hk _ _ (u _ _ hz) (nT Z);refine U rfl (U rfl (U rfl (U rfl (r2 ⟨⟨by decide,by decide⟩,n/16,3,rfl,by decide,by decide,λr rv H8 s8 N ho hh hc=>?_⟩))));refine U rfl ⟨sl,U rfl (.inl ⟨aX.of (s8 _ _ c2),λsh c3=>⟨ls rfl,λdv bN=>?_⟩⟩)⟩;obtain⟨ra,rfl⟩:∃ra,rv=.ref ra:=by cases N<;>exact⟨_,rfl⟩
    have s9:=aj (o:=.tup (B.map V.str)) (am.refl H8) c3;have ad:aA H8 sh (.tup (B.map V.str)) sh=some (.tup (B.map V.str)):=ae;generalize aA H8 sh (.tup (B.map V.str))=H9 at s9 ad bN⊢;have sa:=aj (o:=.tup [.str "trial",.str (bU M.trs.length (bY ns 2 3)),.str hm,.ref ar,.ref ra,.ref sh]) (am.refl H9) bN;refine q dv (.trial ⟨bU M.trs.length (bY ns 2 3),hm,fi ns m,r,B,false,false,[]⟩) _ _ ⟨A.T,.inr rfl,Kp.trans (.of ((s1.trans I).trans u)) (Kp.trans kp (.of ((s8.trans s9).trans sa))),λd ob e n=>((s8.trans s9).trans sa) _ _ (hk d ob (((s1.trans I).trans u) _ _ e) n)⟩ (aW.of ae) ?_ ?_ ⟨rfl,by show fi ns m=fi ns (fi ns m).length;rw[al]⟩ λ_=>rfl
    ·exact .trial ⟨ue _ _,b8,by rw[al];exact cc,by rw[al];exact a6,a7,aw,by show r.hgt<=6;lia,by show B.length<=8;lia⟩ (Eh R.pn h10) (aW.of (((s8.trans s9).trans sa) _ _ bz)) ((N.kp (.of s9)).kp (.of sa)) (by show r.cnt<=30;lia) ho (λw hw=>zV ((by decide+kernel:∀w∈Pe,Nw w=true) w hw)) (by decide) (aW.of (sa _ _ ad)) (λz hz=>Qv.mp (QC (l.subset hz))) c1 rfl rfl rfl h10
    ·have:=bv.same ((s8.trans s9).trans sa);rw[show xo M (.trial ⟨bU M.trs.length (bY ns 2 3),hm,fi ns m,r,B,false,false,[]⟩)=iL M++[(bU M.trs.length (bY ns 2 3),m)]by show iL M++[(_,(fi ns m).length)]=_;rw[al]];exact this
end
inductive F9(K:R7)(vs:List V)(H:Hp)(Q:VK)(_E:XK):Prop|mk(sc:Addr)(ns:Sh)(M:cy)(A:BR)(c:Nat)(k n:Int)(_:vs=[.ref sc,.ref A.pl,.int k,.int n])(_:tU K H sc ns M A c)(_:(0<=k/\k<=1000))(_:0<M.trs.length)(_:jF K ns M A H Q)
def tU.tri(h:tU K H l ns M A c)(h1:H A.T=some (.lst d))(h2:Paired (FK K H) d (iL M))(n:Int)(h0:0<M.trs.length):∃(t:eh)(b:Addr),t∈M.trs/\we d (n%(d.length:Int))=some (.ref b)/\aW K H b [.str t.nm,.int t.arms.length]:=by
 have e:=Paired.length h2;rw[show(iL M).length=M.trs.length from c_ _]at e;have b:=bu n (show(0:Int)<(d.length:Int)by lia);have f:(n%(d.length:Int)).toNat<M.trs.length:=by lia
 obtain⟨v,g,i,rfl,j⟩:=yG h2 (n%(d.length:Int)).toNat _ (by unfold iL;rw[j_,h_ f];rfl);refine⟨_,i,Qx f,?_,j⟩;have:=ao g;rw[show(((n%(d.length:Int)).toNat:Nat):Int)=n%(d.length:Int)by lia]at this;exact this
section
def EI(T:Txt K mg a):aO P w K mg base dk 3 a.rT.x a.rT.d ["_law_script","_law_plan_here","_law_k","_law_number"] (F9 K):=by
 refine T.rT.ok mQ λal A outer s H vs Q E hr h=>?_
 ·obtain⟨sc,ns,M,A,c,k,n,rfl,u,⟨k0,k1⟩,h0,q⟩:=h;refine⟨_,(ag (bg 4 mQ.nd (iX K (iX K (Y 1) af) (av aQ (Y 3) (ay (aH K rfl) (by rfl) T.bE L2.aI (ac (iX K (Y 1) af) O))))) (ag (yF (i:=5) mQ.nd rfl (.inr rfl) (av bG (av bF (iX K (Y 1) af) af) af)) (ag (aJ (aE aS (av aQ (av bF (Y 3) af) af) af (aF _)) (ag (bg 6 mQ.nd (et (fT K rfl) (by rfl) T.eF L2.bZ (ac (wc mK ["_law_j"] [] [7] (ai mi) (cw 7) (cP rfl T.dP (ac (df K (Y 4) af) O)) (λcl C s₀ H₀ ex=>⟨(qL mK ["_law_j"] 7),cr,(av bG af (av aQ (pc T.dX (cH T) hr (ac (Y 0) (ac (Y 2) (ac (av bG af (Y 7)) O)))) af))⟩)) O))) (ah (ax (bO (ac aB (ac (df K (Y 4) af) (ac (av aQ (pc T.dX (cH T) hr (ac (Y 0) (ac (Y 2) (ac af O)))) (av bG (iX K (Y 1) af) af)) (ac (Y 6) O)))))))) aC) (ah (ax (bO (ac aB (ac (df K (Y 4) af) (ac (et (fT K rfl) (by rfl) T.eF L2.bZ (ac (wc mK ["_law_j"] [] [7] (ai mi) (cw 7) (cP rfl T.dP (ac (df K (Y 4) af) O)) (λcl C s₀ H₀ ex=>⟨(qL mK ["_law_j"] 7),cr,(av aQ (pc T.dX (cH T) hr (ac (Y 0) (ac (Y 2) (ac (av bG af (Y 7)) O)))) (Y 5))⟩)) O)) O))))))))),?_⟩
  have J:=u.pl;have hp:=u.pn.pr.le;have an:=qy;obtain⟨us,L,X⟩:=J.T;have aa:=Paired.length X;rw[show(iL M).length=M.trs.length from c_ _]at aa;obtain⟨t,b,B,ad,hb⟩:=u.tri L X n h0;have a1:=(u.ok.tr t B).a1;have a4:=(u.ok.tr t B).a4;refine U rfl (rX (aX.of J.pl) (ao (k:=3) rfl) (U rfl (U rfl (rX (aX.of J.pl) (ao (k:=3) rfl) ⟨_,us.length,rfl,.inl ⟨_,aX.of L,rfl⟩,_,U rfl ⟨rfl,by show(0:Int)<(us.length:Int);lia,A.T,_,_,U rfl ⟨rfl,aX.of L,ad,aq ?_⟩⟩⟩))));refine U rfl (rX (aX.of J.pl) (ao (k:=0) rfl) (r2 ⟨⟨by decide,by decide⟩,_,U rfl ⟨rfl,aq (Cm (rq ?_ (λN hN=>?_)))⟩⟩))
  rotate_left
  ·walk_at "a"
   refine kS (λ_=>?_) (λ_=>hN);refine U rfl (rX hb (ao (k:=1) rfl) (U rfl ⟨by exact tx _,by lia,λD Z=>?_⟩));refine eO (K:=K) (lo:=0) (n:=(t.arms.length:Int).toNat) (λj f H'=>am H H'/\H' D=some (.lst f)/\∃(e:Sh),f=e.map V.int/\e.length=j/\∀x∈e,1<=x/\x<=9) ⟨aj (am.refl _) Z,ae,[],rfl,rfl,λx r=>nomatch r⟩ ?_ ?_
   ·rintro j f R hj⟨F,l,e,rfl,m,g⟩;refine aq (j3 (bD ?_));have b9:=bu (bY ns k (11+(0+(j:Int)))) (show(0:Int)<9 by decide);refine U rfl (U rfl (U rfl (r2 ⟨sc,ns,k,11+(0+(j:Int)),rfl,F.seq u.sq,u.len,⟨by omega,by lia⟩,⟨by lia,by lia⟩,_,U rfl ⟨rfl,(show(0:Int)<9 by decide),_,U rfl ⟨rfl,?_⟩⟩⟩)));refine⟨l,by rw[c_,lm];lia,lf hj ⟨bR F Z,ae,e++[1+bY ns k (11+(0+(j:Int)))%9],by rw[k_];rfl,by rw[kt,m];rfl,λx r=>?_⟩⟩;rcases List.mem_append.mp r with z|z
    ·exact g x z
    ·rw[List.mem_singleton.mp z];lia
   ·rintro f R⟨F,l,e,rfl,m,g⟩;refine⟨D,U rfl (.inl ⟨aX.of l,λG S=>aq ?_⟩)⟩;have y:=aj (o:=.tup (e.map V.int)) F S;have v:aA R G (.tup (e.map V.int)) G=some (.tup (e.map V.int)):=ae;generalize aA R G (.tup (e.map V.int))=H3 at y v⊢;have bz:=bu (bY ns k 10) (show(0:Int)<(M.p:Int)+1 by lia);refine U rfl (rX (am.tseq y hb) (ao (k:=0) rfl) (U rfl (U rfl ⟨sc,ns,k,10,rfl,y.seq u.sq,u.len,⟨by omega,by lia⟩,⟨by decide,by decide⟩,U rfl (rX (aX.of (y _ _ J.pl)) (ao (k:=0) rfl) (r2 (r2 ⟨by show(0:Int)<(M.p:Int)+1;lia,U rfl ⟨ls rfl,λdv I=>?_⟩⟩)))⟩)));have W:=aj (o:=.tup [.str "deal",.str t.nm,.int (bY ns k 10%((M.p:Int)+1)),.ref G]) (am.refl H3) I;exact q dv (.deal t _ e) _ _ (.of (y.trans W)) (aW.of ae) (.deal B ⟨bz.1,by lia⟩ (aW.of (W _ _ v)) (by exact m) λx r=>⟨(g x r).1,by have:=(g x r).2;lia⟩) (J.same (y.trans W)) ⟨by lia,λx r=>(g x r).2⟩ λz=>absurd z (ov h0)
  ·refine U rfl (rX hb (ao (k:=0) rfl) (U rfl (rX hb (ao (k:=1) rfl) (U rfl ⟨by exact tx _,by lia,λD Z=>?_⟩))));refine eO (K:=K) (lo:=0) (n:=(t.arms.length:Int).toNat) (λj f H'=>am H H'/\H' D=some (.lst f)/\∃(e:Sh),f=e.map V.int/\e.length=j/\∀x∈e,0<=x) ⟨aj (am.refl _) Z,ae,[],rfl,rfl,λx r=>nomatch r⟩ ?_ ?_
   ·rintro j f R hj⟨F,l,e,rfl,m,g⟩;refine aq (j3 (bD ?_));have b9:=bu (bY ns k (11+(0+(j:Int)))) (show(0:Int)<(M.p:Int)/2+2 by exact Int.natCast_pos.mpr (QK _));refine U rfl (U rfl (U rfl (r2 ⟨sc,ns,k,11+(0+(j:Int)),rfl,F.seq u.sq,u.len,⟨by omega,by lia⟩,⟨by lia,by lia⟩,U rfl (r2 ⟨(by show(0:Int)<(M.p:Int)/2+2;lia),?_⟩)⟩)));refine⟨l,by rw[c_,lm];lia,lf hj ⟨bR F Z,ae,e++[bY ns k (11+(0+(j:Int)))%((M.p:Int)/2+2)],by rw[k_];rfl,by rw[kt,m];rfl,λx r=>?_⟩⟩;rcases List.mem_append.mp r with z|z
    ·exact g x z
    ·rw[List.mem_singleton.mp z];exact b9.1
   ·rintro f R⟨F,l,e,rfl,m,g⟩;refine⟨D,U rfl (.inl ⟨aX.of l,λG S=>⟨ls rfl,λdv I=>?_⟩⟩)⟩;have y:=aj (o:=.tup (e.map V.int)) F S;have v:aA R G (.tup (e.map V.int)) G=some (.tup (e.map V.int)):=ae;generalize aA R G (.tup (e.map V.int))=H3 at y v I⊢;have W:=aj (o:=.tup [.str "share",.str t.nm,.ref G]) (am.refl H3) I;exact q dv (.share t e) _ _ (.of (y.trans W)) (aW.of ae) (.share B (aW.of (W _ _ v)) (by exact m) g) (J.same (y.trans W)) trivial λz=>absurd z (ov h0)
end
def vi(F G:Prop)(hc:∀Q:Bool->Hp->Prop,(F->Q true H)->(G->Q false H)->c d H Q)(h1:F->∀N:St->Hp->Prop,t {D with nx:=N} d H)(h2:G->u D d H):FY (Jo c t zZ) u D d H:=hc _ (λf=>bD (h1 f _)) λg=>bV (h2 g)
def Db{c:Prop}[Decidable c]{Q:Bool->Hp->Prop}{H:Hp}(h1:c->Q true H)(h2:¬c->Q false H):Q (decide c) H:=by
 by_cases e:c
 ·rw[nn e];exact h1 e
 ·rw[no e];exact h2 e
def PV{te:TE}{g:TG}{u:TS}{D:ql}{c:St}(h1:∀Q:VK,(∀b,Q (.bl b) H)->te c H Q)(h2:∀b,g (.bl b) c H (u D)):FY (BY te g) u D c H:=h1 _ h2
inductive JJ(K:R7)(vs:List V)(H:Hp)(Q:VK)(_E:XK):Prop|mk(sc:Addr)(ns:Sh)(M:cy)(A:BR)(c:Nat)(k:Int)(_:vs=[.ref sc,.ref A.pl,.int k])(_:tU K H sc ns M A c)(_:(0<=k/\k<=1000))(_:jF K ns M A H Q)
section
def G1(T:Txt K mg a):aO P w K mg base dk 6 a.yb.x a.yb.d ["_law_script","_law_plan_here","_law_k"] (JJ K):=by
 refine T.yb.ok kJ λan A outer s H vs Q E J h=>?_
 ·obtain⟨W,ns,M,A,c,k,rfl,v,⟨k0,k1⟩,q0⟩:=h;refine⟨_,(ag (bg 3 kJ.nd (pc T.dX (cH T) J (ac (Y 0) (ac (Y 2) (ac af O))))) (ag (bg 4 kJ.nd (av bF (Y 3) af)) (ag (bg 5 kJ.nd (pc T.r6 (EM T) J (ac (av aQ (Y 4) af) (ac (pc T.dX (cH T) J (ac (Y 0) (ac af (ac af O)))) O)))) (ag (aJ (PW.pt (eC (aE aS (ay (aH K rfl) (by rfl) T.bE L2.aI (ac (iX K (Y 1) af) O)) af (aF _)) (db (PW.pt (oA (aE aS (av aQ (Y 3) af) af (aF _)) (lH (aE Az (ay (aH K rfl) (by rfl) T.bE L2.aI (ac (iX K (Y 1) af) O)) (ay (rL rfl) (by rfl) T.Hb L2.vF (ac (av bG (iX K (Y 1) af) af) (ac af O))) (aF _)))))))) (ah (ax (pc T.gQ (wJ T) J (ac (Y 0) (ac (Y 1) O))))) aC) (ag (bg 6 kJ.nd (cJ (bX Az (Y 2) af (aF _)) (dA (bX Az (av aQ (Y 3) af) af (aF _))))) (ag (aJ (PW.pt (eC (aE aS (ay (aH K rfl) (by rfl) T.bE L2.aI (ac (iX K (Y 1) af) O)) af (aF _)) (db (PW.pt (oA (aE Az (ay (aH K rfl) (by rfl) T.bE L2.aI (ac (iX K (Y 1) af) O)) af (aF _)) (lH (PW.pt (eC (aM K rfl (Y 6) (λ_=>rfl)) (db (aE aS (av aQ (Y 3) af) af (aF _))))))))))) (ah (ax (pc T.gP (wI T) J (ac (Y 0) (ac (Y 1) (ac (Y 4) O)))))) aC) (ag (aJ (aE Az (av aQ (Y 3) af) af (aF _)) (ah (ax (pc T.rT (EI T) J (ac (Y 0) (ac (Y 1) (ac (Y 2) (ac (Y 4) O))))))) aC) (ag (bg 7 kJ.nd (df K (iX K (iX K (Y 1) af) (av aQ (av bF (Y 4) af) (ay (aH K rfl) (by rfl) T.bE L2.aI (ac (iX K (Y 1) af) O)))) af)) (ag (aJ (aE aS (av aQ (Y 3) af) af (aF _)) (ah (ax (bO (ac aB (ac (iX K (iX K (Y 1) af) (av aQ (Y 4) (ay (aH K rfl) (by rfl) T.bE L2.aI (ac (iX K (Y 1) af) O)))) (ac (av aQ (av bF (Y 4) af) (av bG (av bF (iX K (Y 1) af) af) af)) O)))))) aC) (ag (aJ (aE aS (av aQ (Y 3) af) af (aF _)) (ah (ax (bO (ac (iX K (bn (ac aB (ac aB (ac aB O)))) (av aQ (Y 4) af)) (ac (Y 7) O))))) aC) (ag (aJ (aE aS (av aQ (Y 3) af) af (aF _)) (ah (ax (bO (ac (iX K (bn (ac aB (ac aB (ac aB (ac aB O))))) (av aQ (Y 4) af)) (ac (Y 7) O))))) aC) (ag (aJ (aE aS (av aQ (Y 3) af) af (aF _)) (ah (ax (bO (ac aB (ac (Y 5) (ac (Y 7) O)))))) aC) (ah (ax (bO (ac aB (ac (Y 5) (ac (pc T.rZ (EL T) J (ac (av bF (Y 4) af) O)) O)))))))))))))))))),?_⟩
  refine U rfl (U rfl ⟨W,ns,k,5,rfl,v.sq,v.len,⟨by omega,by lia⟩,⟨by decide,by decide⟩,aq ?_⟩);have x0:=(Km ns k 5).1;generalize bY ns k 5=x at x0⊢;refine U rfl (r2 ⟨⟨by decide,by decide⟩,aq ?_⟩);refine U rfl (r2 ⟨(show(0:Int)<7 by decide),U rfl ⟨W,ns,4,6,rfl,v.sq,v.len,⟨by decide,by decide⟩,⟨by decide,by decide⟩,x/16%7,bY ns 4 6,rfl,λg I s1 hg=>aq (Cm ?_)⟩⟩);have S:=v.same s1;have q:=q0.same s1;clear v q0 s1;have i:=S.pl;have hp:=S.pn.pr.le;obtain⟨us,C,X⟩:=i.T;have aa:=Paired.length X;rw[show(iL M).length=M.trs.length from c_ _]at aa;have Z:((iw M).map V.str).length=M.las.length:=by rw[c_];exact c_ _
  refine vi (M.las.length<4/\M.las.length<M.p+1) (0<M.las.length) (λQ r u=>?_) (λf N=>?_) (λh0=>?_)
  ·refine U rfl (rX (aX.of i.pl) (ao (k:=2) rfl) ⟨_,M.las.length,rfl,.inl ⟨_,aX.of i.L,Z.symm⟩,rfl,U rfl (kS (λe=>r ⟨by lia,by lia⟩) (λe=>?_))⟩);refine U rfl (r2 ⟨(show(0:Int)<16 by decide),rfl,U rfl (kS (λ_=>?_) (λ_=>u (by lia)))⟩);refine U rfl (rX (aX.of i.pl) (ao (k:=2) rfl) ⟨_,M.las.length,rfl,.inl ⟨_,aX.of i.L,Z.symm⟩,U rfl (rX (aX.of i.pl) (ao (k:=0) rfl) (r2 ⟨(M.p:Int)+1,4,rfl,r2 (U rfl (Db (λf=>r ?_) (λ_=>u (by lia))))⟩))⟩)
   split at f<;>lia
  ·exact U rfl (U rfl ⟨W,ns,M,A,c,rfl,S,f.1,f.2,q⟩)
  refine PV (λQ h=>?_) (λeb=>aq ?_)
  ·refine U rfl (r2 (U rfl (ko (λ_=>?_) (λ_=>h _))));exact U rfl (r2 ⟨(show(0:Int)<16 by decide),_,U rfl ⟨rfl,h _⟩⟩)
  refine vi (M.trs.length<10) (0<M.trs.length) (λQ r u=>?_) (λf N=>?_) (λF=>?_)
  ·refine U rfl (rX (aX.of i.pl) (ao (k:=3) rfl) ⟨_,us.length,rfl,.inl ⟨_,aX.of C,rfl⟩,rfl,U rfl (kS (λe=>r (by lia)) (λe=>?_))⟩);have g0:0<M.trs.length:=by lia
   refine U rfl (rX (aX.of i.pl) (ao (k:=3) rfl) ⟨_,us.length,rfl,.inl ⟨_,aX.of C,rfl⟩,_,U rfl ⟨rfl,U rfl (ko (λe=>?_) (λ_=>u g0))⟩⟩);have f:=r (by lia);refine U rfl ⟨eb,rfl,zf (λ_=>f) (λ_=>?_)⟩;exact U rfl (r2 ⟨(show(0:Int)<16 by decide),rfl,U rfl (Db (λ_=>f) (λ_=>u g0))⟩)
  ·exact U rfl (U rfl (U rfl ⟨W,ns,M,A,c,x/16,rfl,S,f,h0,q⟩))
  refine vi True True (λQ r u=>?_) (λ_ N=>?_) (λ_=>?_)
  ·exact U rfl (r2 ⟨(show(0:Int)<16 by decide),_,U rfl ⟨rfl,U rfl (Db (λ_=>r trivial) (λ_=>u trivial))⟩⟩)
  ·exact U rfl (U rfl (U rfl (U rfl ⟨W,ns,M,A,c,k,x/16,rfl,S,⟨k0,k1⟩,F,q⟩)))
  obtain⟨t,b,y,ad,hb⟩:=S.tri C X (x/16/7) F;refine U rfl (rX (aX.of i.pl) (ao (k:=3) rfl) (U rfl (r2 ⟨⟨by decide,by decide⟩,U rfl (rX (aX.of i.pl) (ao (k:=3) rfl) ⟨_,us.length,rfl,.inl ⟨_,aX.of C,rfl⟩,_,U rfl ⟨rfl,by show(0:Int)<(us.length:Int);lia,A.T,_,_,U rfl ⟨rfl,aX.of C,ad,rX hb (ao (k:=0) rfl) (aq (Cm ?_))⟩⟩⟩)⟩)));refine vi True True (λQ r u=>?_) (λ_ N=>?_) (λ_=>?_)
  ·exact U rfl (r2 ⟨(show(0:Int)<16 by decide),rfl,U rfl (Db (λ_=>r trivial) (λ_=>u trivial))⟩)
  ·have ap:(iw M).length=M.las.length:=c_ _;have bl:=bu (x/16) (show(0:Int)<((iw M).length:Int)by lia);have bz:=bu (x/16/4) (show(0:Int)<(M.p:Int)/3+2 by lia);obtain⟨nm,al,ha⟩:=jp bl.1 bl.2;obtain⟨l,hl,rfl⟩:=nk.mp al;refine U rfl (rX (aX.of i.pl) (ao (k:=2) rfl) (U rfl (U rfl (rX (aX.of i.pl) (ao (k:=2) rfl) ⟨_,(iw M).length,rfl,.inl ⟨_,aX.of i.L,by rw[c_]⟩,_,U rfl ⟨rfl,by show(0:Int)<((iw M).length:Int);lia,A.L,_,_,U rfl ⟨rfl,aX.of i.L,ha,?_⟩⟩⟩))));refine U rfl (r2 ⟨⟨by decide,by decide⟩,U rfl (rX (aX.of i.pl) (ao (k:=0) rfl) (r2 ⟨⟨by decide,by decide⟩,_,U rfl ⟨rfl,r2 ⟨by show(0:Int)<(M.p:Int)/3+2;lia,ls rfl,λB m=>?_⟩⟩⟩))⟩);have j:=aj (o:=.tup [.str "hold",.str l.nm,.int (x/16/4%((M.p:Int)/3+2))]) (am.refl I) m;exact q B (.hold l _) _ _ (.of j) (aW.of ae) (.hold hl bz.1) (i.same j) trivial λz=>absurd z (ov F)
  refine vi True True (λQ r u=>?_) (λ_ N=>?_) (λ_=>?_)
  ·exact U rfl (r2 ⟨(show(0:Int)<16 by decide),rfl,U rfl (Db (λ_=>r trivial) (λ_=>u trivial))⟩)
  ·refine⟨ls rfl,λG R=>?_⟩;have n:=aj (o:=.lst [V.str "pause",V.str "go",V.str "go"]) (am.refl I) R;have D:aA I G (.lst [V.str "pause",V.str "go",V.str "go"]) G=some (.lst [V.str "pause",V.str "go",V.str "go"]):=ae;generalize aA I G (.lst [V.str "pause",V.str "go",V.str "go"])=H2 at n D⊢;have bm:=bu (x/16) (show(0:Int)<3 by decide);obtain⟨z,hz,ha⟩:=jp (zs:=["pause","go","go"]) bm.1 bm.2;refine U rfl (r2 ⟨(show(0:Int)<3 by decide),G,_,_,U rfl ⟨rfl,aX.of D,ha,U rfl ⟨ls rfl,λB m=>?_⟩⟩⟩);have j:=aj (o:=.tup [.str z,.str t.nm]) (am.refl H2) m;simp only[pw,oi,vr]at hz;rcases hz with rfl|rfl|rfl
   ·exact q B (.pause t true) _ _ (.of (n.trans j)) (aW.of ae) (.pause y) (i.same (n.trans j)) trivial λz=>absurd z (ov F)
   all_goals exact q B (.pause t false) _ _ (.of (n.trans j)) (aW.of ae) (.go y) (i.same (n.trans j)) trivial λz=>absurd z (ov F)
  refine vi True True (λQ r u=>?_) (λ_ N=>?_) (λ_=>?_)
  ·exact U rfl (r2 ⟨(show(0:Int)<16 by decide),rfl,U rfl (Db (λ_=>r trivial) (λ_=>u trivial))⟩)
  ·refine⟨ls rfl,λG R=>?_⟩;have n:=aj (o:=.lst [V.str "close",V.str "pause",V.str "go",V.str "go"]) (am.refl I) R;have D:aA I G (.lst [V.str "close",V.str "pause",V.str "go",V.str "go"]) G=some (.lst [V.str "close",V.str "pause",V.str "go",V.str "go"]):=ae;generalize aA I G (.lst [V.str "close",V.str "pause",V.str "go",V.str "go"])=H2 at n D⊢;have bm:=bu (x/16) (show(0:Int)<4 by decide);obtain⟨z,hz,ha⟩:=jp (zs:=["close","pause","go","go"]) bm.1 bm.2;refine U rfl (r2 ⟨(show(0:Int)<4 by decide),G,_,_,U rfl ⟨rfl,aX.of D,ha,U rfl ⟨ls rfl,λB m=>?_⟩⟩⟩);have j:=aj (o:=.tup [.str z,.str t.nm]) (am.refl H2) m;simp only[pw,oi,vr]at hz;rcases hz with rfl|rfl|rfl|rfl
   ·exact q B (.close t) _ _ (.of (n.trans j)) (aW.of ae) (.close y) (i.same (n.trans j)) trivial λz=>absurd z (ov F)
   ·exact q B (.pause t true) _ _ (.of (n.trans j)) (aW.of ae) (.pause y) (i.same (n.trans j)) trivial λz=>absurd z (ov F)
   all_goals exact q B (.pause t false) _ _ (.of (n.trans j)) (aW.of ae) (.go y) (i.same (n.trans j)) trivial λz=>absurd z (ov F)
  refine vi True True (λQ r u=>?_) (λ_ N=>?_) (λ_=>?_)
  ·exact U rfl (r2 ⟨(show(0:Int)<16 by decide),rfl,U rfl (Db (λ_=>r trivial) (λ_=>u trivial))⟩)
  ·refine U rfl (U rfl ⟨ls rfl,λB m=>?_⟩);have j:=aj (o:=.tup [.str "bar",.str g,.str t.nm]) (am.refl I) m;exact q B (.bar g t) _ _ (.of j) (aW.of ae) (.bar hg y) (i.same j) trivial λz=>absurd z (ov F)
  refine U rfl (U rfl (r2 ⟨⟨by decide,by decide⟩,x/16/7,rfl,λmt ms H2 n hm h3 h4 h5=>⟨ls rfl,λB m=>?_⟩⟩));have j:=aj (o:=.tup [.str "visit",.str g,.ref mt]) (am.refl H2) m;exact q B (.visit g) _ _ (.of (n.trans j)) (aW.of ae) (.visit hg (hm.kp (.of j)) h3 h4 h5) (i.same (n.trans j)) trivial λz=>absurd z (ov F)
end
def BH.same{v:V}(s:am H H')(h:BH K H v):BH K H' v:=by obtain⟨T,ty,b⟩:=h;refine⟨T,?_,b⟩;generalize Value.type T=u at ty;cases ty with|non=>exact .non|bl x=>exact .bl x|int i=>exact .int i|str x=>exact .str x|flt x=>exact .flt x|lst e=>exact .lst (s _ _ e)|frz e=>exact .frz (s _ _ e)|tup e=>exact .tup (s _ _ e)|dK e=>exact .dK (s _ _ e)|dT e=>exact .dT (s _ _ e)|ins e h1 h2 h3 h4 h5=>exact .ins (s _ _ e) h1 h2 h3 h4 h5
theorem xj.same{v:V}(s:am H H')(h:xj K H v):xj K H' v:=h.imp (·.same s) id
def P4(K:R7)(H:Hp)(d:Addr)(x:Str)(b:Bool):Prop:=(∃c:List (cg×V),H d=some (.dK c)/\(bp c (.inr x)).isSome=b)\/∃l:List Str,aW K H d (l.map V.str)/\nj (.str x) (l.map V.str)=b
inductive Og(K:R7)(U:Addr)(vs:List V)(H:Hp)(Q:VK)(E:XK):Prop|mk(v:V)(d:Addr)(_:vs=[v,.ref d])(_:((∃x b,v=.str x/\Wd x/\P4 K H d x b/\∀H',am H H'->(b=true->Q .non H')/\(b=false->E (.ref U) none H'))\/(xj K H v/\∀H',am H H'->E (.ref U) none H')))
inductive Go(vs:List V)(H:Hp)(Q:VK)(_E:XK):Prop|mk(p n:Int)(_:vs=[.int p,.int n])(_:0<=p)(_:p<n)(_:Q .non H)
def FJ(K:R7)(H:Hp)(S:AS)(p:Int)(v:V):Prop:=(v=.non/\∀k,p∉S.pl k)\/∃x y,p∈S.pl (aZ x y)/\cN K H (aZ x y) v
def FJ.kp{S:AS}{p:Int}{v:V}(e:Kp H H')(h:FJ K H S p v):FJ K H' S p v:=h.imp id λ⟨x,y,h1,h2⟩=>⟨x,y,h1,dC e h2⟩
theorem cE.own{M:cy}{Z:ZS}{c i:Nat}{l:cR}{p:Int}(h:cE P w K a H M Z c)(d:M.las[i]?=some l)(p0:0<=p)(p1:p<M.p):FJ K H l.S p ((bp (Z.ow i) (.inl p)).getD .non):=by have b:=h.ok.la l (i_ d);obtain⟨_,⟨m,_,j⟩,r,_⟩:=h.g.tabs i l d;have e:=j.2 p p0 p1;cases f:bp (Z.ow i) (.inl p)with|none=>rw[f]at e;refine .inl ⟨rfl,λk z=>?_⟩;have:=(b.ok.in_ k p z).2.2;rw[<-e]at this;cases this|some v=>
  obtain⟨k,h1,h2⟩:=r p v p0 p1 f;rcases b.own k p h1 with rfl|⟨t,_,_,y,_,rfl⟩
  ·exact .inr ⟨_,_,h1,h2⟩
  ·exact .inr ⟨_,_,h1,h2⟩
def Ds(K:R7)(H:Hp)(v:V)(l:cR):Prop:=∃b,v=.ref b/\aW K H b [.str l.nm,.int l.sl]
def Ds.kp(e:Kp H H'){c:List V}{ls:List cR}(h:Paired (Ds K H) c ls):Paired (Ds K H') c ls:=Paired.mapP h λ_ _ q=>q.imp λ_ q=>⟨q.1,e.tq q.2⟩
inductive L6(P:Sb)(w:World)(K:R7)(a:iK)(vs:List V)(H:Hp)(Q:VK)(_E:XK):Prop|mk(M:cy)(Z:ZS)(c i j:Nat)(l:cR)(t:eh)(z:Str)(_:vs=[.ref (Z.G .hh),.str t.nm,.str z])(_:cE P w K a H M Z c)(_:M.trs[j]?=some t)(_:M.las[i]?=some l)(_:l.nm=t.home)(_:∀(r:Addr)H',am H H'->H r=none->H' r=some (.lst ((l.S.pl (aZ t.nm z)).map V.int))->Q (.ref r) H')
def Jc(K:R7)(U:Addr)(H:Hp)(M:cy)(E:XK)(G:cR->eh->Str->Prop)(v y:V):Prop:=(xj K H v/\∀H',am H H'->E (.ref U) none H')\/∃(j:Nat)(t:eh),v=.str t.nm/\M.trs[j]?=some t/\((∃(i:Nat)(l:cR)(z:Str),y=.str z/\M.las[i]?=some l/\l.nm=t.home/\z∈t.arms/\G l t z)\/((xj K H y\/∃z,y=.str z/\Wd z/\z∉t.arms)/\∀H',am H H'->E (.ref U) none H'))
def MV{z:Str}{c:Sc}(h:z∉c):nj (.str z) (c.map V.str)=false:=by cases e:nj (.str z) (c.map V.str)with|false=>rfl|true=>unfold nj at e;obtain⟨v,d,e⟩:=Q9.mp e;obtain⟨u,b,rfl⟩:=nk.mp d;have e:(u==z)=true:=e;rw[eq_of_beq e]at b;exact absurd b h
def Jc.mono{U:Addr}{M:cy}{E:XK}{G d:cR->eh->Str->Prop}{v y:V}(h:Jc K U H M E G v y)(f:∀l∈M.las,∀t z,G l t z->d l t z):Jc K U H M E d v y:=h.imp id λ⟨j,t,a,b,c⟩=>⟨j,t,a,b,c.imp (λ⟨i,l,z,k,e,m,n,g⟩=>⟨i,l,z,k,e,m,n,f l (i_ e) t z g⟩) id⟩
inductive Gb(P:Sb)(w:World)(K:R7)(a:iK)(vs:List V)(H:Hp)(Q:VK)(E:XK):Prop|mk(M:cy)(Z:ZS)(c:Nat)(v y:V)(_:vs=[.ref (Z.G .hh),v,y])(_:cE P w K a H M Z c)(_:Jc K a.pU H M E (λl t z=>∀(r:Addr)H',am H H'->H' r=some (.lst ((l.S.pl (aZ t.nm z)).map V.int))->Q (.ref r) H') v y)
inductive Jz(P:Sb)(w:World)(K:R7)(a:iK)(vs:List V)(H:Hp)(Q:VK)(E:XK):Prop|mk(M:cy)(Z:ZS)(c:Nat)(v y:V)(_:vs=[.ref (Z.G .hh),v,y])(_:cE P w K a H M Z c)(_:Jc K a.pU H M E (λl t z=>∀H',am H H'->Q (.int (((l.S.pl (aZ t.nm z)).length:Int)*M.p)) H') v y)
inductive Ga(P:Sb)(w:World)(K:R7)(a:iK)(vs:List V)(H:Hp)(Q:VK)(_E:XK):Prop|mk(M:cy)(Z:ZS)(c:Nat)(_:vs=[.ref (Z.G .hh)])(_:cE P w K a H M Z c)(_:Q (.int M.p) H)
inductive JE(P:Sb)(w:World)(K:R7)(a:iK)(vs:List V)(H:Hp)(Q:VK)(_E:XK):Prop|mk(M:cy)(Z:ZS)(c i:Nat)(l:cR)(p:Int)(_:vs=[.ref (Z.G .hh),.str l.nm,.int p])(_:cE P w K a H M Z c)(_:M.las[i]?=some l)(_:0<=p)(_:p<M.p)(_:∀(v:V)H',am H H'->FJ K H' l.S p v->Q v H')
inductive Ep(P:Sb)(w:World)(K:R7)(a:iK)(vs:List V)(H:Hp)(Q:VK)(_E:XK):Prop|mk(M:cy)(Z:ZS)(c:Nat)(_:vs=[.ref (Z.G .hh)])(_:cE P w K a H M Z c)(_:∀(r:Addr)(us:List V)H',am H H'->H' r=some (.lst us)->Paired (Ds K H') us M.las->Q (.ref r) H')
section
def jm(T:Txt K mg a):aO P w K mg base (sN P w) 3 a.bI.x a.bI.d ["thing","names"] (Og K a.pU):=by
 refine T.bI.okE uD λi A outer s H j Q E g h=>?_
 ·obtain⟨v,d,rfl,h⟩:=h;refine⟨_,(ah (aJ (PW.pt (eC (bT (aM K rfl (pc T.dQ (gE T) g (ac (Y 0) O)) (λ_=>rfl))) (db (oB (EF K rfl (ck g) (Y 0) (Y 1)) rfl)))) (ah (uQ T.vw rfl T.xE rfl uP (ac aB O))) aC)),?_⟩;rcases h with⟨x,b,rfl,h1,h2,q⟩|⟨h1,q⟩
  ·refine U rfl ⟨V.str x,rfl,.inl ⟨x,rfl,h1,λe c=>(U rfl (bV ?_))⟩⟩;refine U rfl (U rfl ?_);rcases h2 with⟨f,h2,h3⟩|⟨l,h2,h3⟩
   ·refine .inl (rG (bp f (.inr x)) (dG.k (k:=.inr x) (c _ _ h2)) (U rfl ?_));rw[h3];cases b with|true=>exact bV ((q e c).1 rfl)|false=>exact bD ⟨ls rfl,(q e c).2 rfl⟩
   ·refine .inr ⟨d,U rfl ⟨.inr (am.tseq c h2),rfl,mO l,U rfl ?_⟩⟩;rw[h3];cases b with|true=>exact bV ((q e c).1 rfl)|false=>exact bD ⟨ls rfl,(q e c).2 rfl⟩
  ·exact U rfl ⟨v,rfl,.inr ⟨h1,λe c=>(U rfl (bD ⟨ls rfl,q e c⟩))⟩⟩
def uY(T:Txt K mg a):aO P w K mg base dk 3 a.fO.x a.fO.d ["thing","prime"] Go:=by
 refine T.fO.ok uB λb A outer s H e Q E c h=>?_
 ·obtain⟨z,p,rfl,h0,h1,q⟩:=h;refine⟨_,(ah (aJ (PW.pt (eC (bT (aM K rfl (pc T.eM (fK T) c (ac (Y 0) O)) (λ_=>rfl))) (db (aE GX (Y 0) (Y 1) (aF _))))) (ah cn) aC)),?_⟩;refine U rfl ⟨z,rfl,h0,U rfl (bV ?_)⟩;refine U rfl (U rfl ⟨z,p,rfl,rfl,U rfl (ko (λh=>absurd h (by omega)) (λ_=>q))⟩)
def oE(T:Txt K mg a):aO P w K mg base dk 2 a.cL.x a.cL.d ["self","trial","arm"] (L6 P w K a):=by
 refine T.cL.ok oa λS A outer s H vs Q E n h=>?_
 ·obtain⟨M,Z,c,i,j,l,t,z,rfl,e,L,B,hh,q⟩:=h;refine⟨_,(ah (ax (bo (aG K rfl (dL (ck n) (aG K rfl (Y 0)) (aG K rfl (dL (ck n) (aG K rfl (Y 0)) (Y 1) (λ_ _=>rfl))) (λ_ _=>rfl))) T.bf T.aY.m ((dN (P:=P) (w:=w) T).mono (by decide)) n T.aY.b .nil bh (ac (bO (ac (Y 1) (ac (Y 2) O))) O)))),?_⟩;have N:=e.g.house;have C:=e.g.trial L;obtain⟨m,f,D⟩:=e.g.tab B;obtain⟨V,F⟩:=f.ins;have u:=e.ok.lget (Z:=Z) B;rw[hh]at u;refine ip N T.az T.aN rfl rfl ?_;refine ip N T.az T.aP rfl rfl (U rfl (rG (.ref (Z.G (.tr j))) (by rw[<-e.ok.tget (Z:=Z) L];exact dG.k (k:=.inr t.nm) e.g.tris) ?_));refine rF C T.bd T.ik rfl (rG (.ref (Z.G (.lo i))) (by rw[<-u];exact dG.k (k:=.inr t.home) e.g.lays) ?_);refine rF (e.g.layer B) T.bJ T.dB rfl (rM F rfl ?_);refine U rfl (U rfl ⟨ls rfl,λv I=>?_⟩);have y:=aj (o:=.tup [.str t.nm,.str z]) (am.refl H) I;have R:aA H v (.tup [.str t.nm,.str z]) v=some (.tup [.str t.nm,.str z]):=ae;generalize aA H v (.tup [.str t.nm,.str z])=H4 at y R⊢;refine⟨Z.G (.tb i),Z.G (.od i),Z.G (.td i),M.p,Z.ow i,Z.tk i,m,aZ t.nm z,.ref v,rfl,f.same y,⟨v,rfl,aW.of R⟩,λr W X n J=>q r W (y.trans X) (y.free n) ?_⟩;rw[<-D.1];exact J
def tE(T:Txt K mg a):aO P w K mg base (sN P w) 4 a.dZ.x a.dZ.d ["self","trial","arm"] (Gb P w K a):=by
 refine T.dZ.okE tf λN A outer s H W Q E p h=>?_
 ·obtain⟨M,Z,c,v,y,rfl,n,h⟩:=h;refine⟨_,(ag (aR (bw ((jm T).mono (by decide)) p rfl T.bI.m T.bI.f.kp T.bI.b .nil eE (ac (Y 1) (ac (aG K rfl (Y 0)) O)))) (ag (aR (bw ((jm T).mono (by decide)) p rfl T.bI.m T.bI.f.kp T.bI.b .nil eE (ac (Y 2) (ac (aG K rfl (dL (ck p) (aG K rfl (Y 0)) (Y 1) (λ_ _=>rfl))) O)))) (ah (ax (bo (Y 0) T.az T.cL.m ((oE (P:=P) (w:=w) T).mono (by decide)) p T.cL.b .nil bh (ac (Y 1) (ac (Y 2) O))))))),?_⟩
  have J:=n.g.house;refine U rfl (ip J T.az T.aP rfl rfl ⟨v,Z.G .tn,rfl,?_⟩);rcases h with⟨h,q⟩|⟨j,t,rfl,u,h⟩
  ·exact .inr ⟨h,q⟩
  have B:=n.ok.tr t (i_ u);have L:=n.ok.tget (Z:=Z) u;refine .inl ⟨_,true,rfl,B.wd,.inl ⟨_,n.g.tris,by rw[L];rfl⟩,λX e=>⟨λ_=>?_,λz=>(nomatch z)⟩⟩;obtain⟨C,-,-⟩:=n.g.trs j t u;refine U rfl (ip (e _ _ J) T.az T.aP rfl rfl (U rfl (rG (.ref (Z.G (.tr j))) (by rw[<-L];exact dG.k (k:=.inr t.nm) (e _ _ n.g.tris)) ?_)));refine rF (e _ _ (n.g.trial u)) T.bd T.fA rfl ⟨y,Z.ar j,rfl,?_⟩;rcases h with⟨i,l,z,rfl,R,hh,F,q⟩|⟨h|⟨z,rfl,h,F⟩,q⟩
  ·refine .inl ⟨_,true,rfl,B.aw z F,.inr ⟨_,am.tseq e C,HM F⟩,λI D=>⟨λ_=>?_,λz=>(nomatch z)⟩⟩;have o:=e.trans D;exact nh (o _ _ J) rfl rfl (U rfl (U rfl ⟨M,Z,c,i,j,l,t,z,rfl,n.same o,u,R,hh,λr S V _ p=>q r S (o.trans V) p⟩))
  ·exact .inr ⟨h.same e,λI D=>q I (e.trans D)⟩
  ·exact .inl ⟨_,false,rfl,h,.inr ⟨_,am.tseq e C,MV F⟩,λI D=>⟨λz=>(nomatch z),λ_=>q I (e.trans D)⟩⟩
def jn(T:Txt K mg a):aO P w K mg base dk 1 a.cD.x a.cD.d ["self"] (Ga P w K a):=by
 refine T.cD.ok uJ λb A outer s H f Q E i h=>?_
 ·obtain⟨M,Z,c,rfl,e,q⟩:=h;refine⟨_,(ah (ax (aG K rfl (Y 0)))),?_⟩;exact ip e.g.house T.az T.bP rfl rfl q
def pj(T:Txt K mg a):aO P w K mg base (sN P w) 5 a.dz.x a.dz.d ["house","trial","arm"] (Jz P w K a):=by
 refine T.dz.okE yt λj A outer s H n Q E f h=>?_
 ·obtain⟨M,Z,c,v,y,rfl,e,h⟩:=h;refine⟨_,(ah (ax (av fE (ay (aH K rfl) (by rfl) T.bE L2.aI (ac (bo (Y 0) T.az T.dZ.m ((tE (P:=P) (w:=w) T).mono (by decide)) f T.dZ.b .nil eE (ac (Y 1) (ac (Y 2) O))) O)) (kM (Y 0) T.az T.cD.m ((jn (P:=P) (w:=w) T).mono (by decide)) f T.cD.b .nil bh)))),?_⟩;refine nh e.g.house rfl rfl (U rfl (U rfl ⟨M,Z,c,v,y,rfl,e,h.mono λl o t z q r k i f=>?_⟩));have u:=e.ok.p;exact⟨_,(l.S.pl (aZ t.nm z)).length,rfl,.inl ⟨_,aX.of f,by rw[c_]⟩,nh (i _ _ e.g.house) rfl rfl ⟨M,Z,c,rfl,e.same i,_,U rfl ⟨rfl,.inr ⟨by omega,by omega⟩,q k i⟩⟩⟩
def u5(T:Txt K mg a):aO P w K mg base (sN P w) 4 a.eU.x a.eU.d ["self","layer","place"] (JE P w K a):=by
 refine T.eU.okE uK λB A outer s H J Q E t h=>?_
 ·obtain⟨M,Z,c,i,l,p,rfl,n,o,p0,p1,q⟩:=h;refine⟨_,(ag (aR (bw ((jm T).mono (by decide)) t rfl T.bI.m T.bI.f.kp T.bI.b .nil eE (ac (Y 1) (ac (aG K rfl (Y 0)) O)))) (ag (aR (pc T.fO (uY T) t (ac (Y 2) (ac (aG K rfl (Y 0)) O)))) (ah (ax (bo (aG K rfl (dL (ck t) (aG K rfl (Y 0)) (Y 1) (λ_ _=>rfl))) T.bf T.b7.m ((jS (P:=P) (w:=w) T).mono (by decide)) t T.b7.b .nil bh (ac (Y 2) O)))))),?_⟩
  have u:=n.g.house;have y:=n.ok.lget (Z:=Z) o;have C:=n.ok.la l (i_ o);refine U rfl (ip u T.az T.aN rfl rfl ⟨.str l.nm,Z.G .ln,rfl,.inl ⟨_,true,rfl,C.wd,.inl ⟨_,n.g.lays,by rw[y];rfl⟩,λD r=>⟨λ_=>?_,λz=>(nomatch z)⟩⟩⟩);have j:=n.same r;obtain⟨m,e,F⟩:=j.g.tab o;obtain⟨I,v⟩:=e.ins;refine U rfl (ip (r _ _ u) T.az T.bP rfl rfl ⟨p,M.p,rfl,p0,p1,?_⟩);refine ip (r _ _ u) T.az T.aN rfl rfl (U rfl (rG (.ref (Z.G (.lo i))) (by rw[<-y];exact dG.k (k:=.inr l.nm) (r _ _ n.g.lays)) ?_));exact rF (j.g.layer o) T.bJ T.dB rfl (rM v rfl (U rfl ⟨Z.G (.tb i),Z.G (.od i),Z.G (.td i),M.p,Z.ow i,Z.tk i,m,p,rfl,e,q _ D r (j.own o p0 p1)⟩))
def tF(T:Txt K mg a):aO P w K mg base dk 1 a.d0.x a.d0.d ["self"] (Ep P w K a):=by
 refine T.d0.ok tj λap A outer s H vs Q E hr h=>?_
 ·obtain⟨M,Z,c,rfl,R,q⟩:=h;refine⟨_,(ah (ax (GT (P:=P) (w:=w) (wc ["self"] ["name","layer"] [] [1,2] (ai gc) (C0 _ 1 2) (At (P:=P) (w:=w) (aG K rfl (Y 0))) (λcl C s₀ H₀ ex=>⟨(ij K rfl rfl (bL (qL ["self"] ["name","layer"] 1) (bL (qL ["self"] ["name","layer"] 2) ii))),cr,(bO (ac (Y 1) (ac (aG K rfl (Y 2)) O)))⟩))))),?_⟩
  have as:=R.ok.l4;have B:=R.g.lays;refine ip R.g.house T.az T.aN rfl rfl ⟨Z.G .ln,U rfl ⟨B,λep=>λD S=>?_⟩⟩;have nd:Z.G .ln≠D:=λz=>by rw[<-z,ae]at S;cases S
  have F:H D=none:=by rw[ak (pv nd)]at S;exact S
  refine zx (n:=M.las.length) (λk f I=>(∀b o,H b=some o->b≠Z.G .ln->I b=some o)/\I (Z.G .ln)=some (dE P w (Z.G .ln) (jV (M.las.map cR.nm) λi=>.ref (Z.G (.lo i))) ep)/\I D=some (.lst f)/\Paired (Ds K I) f (M.las.take k)) ⟨λb o e n=>by rw[ak (aD e F),ak n];exact e,by rw[ak nd,ae],ae,.nil⟩ (λk f I V h=>⟨h.2.1,by rw[iW,c_];exact V⟩) ?_ ?_
  ·rintro k f m x t V⟨W,j,p,l⟩⟨X,kk,vv,aa,rfl,rfl,J⟩;have hl:=h_ V;rw[yN,j_,hl]at J;obtain⟨rfl,rfl⟩:=QB (m_ J);have v:=aj (o:=.tup [kV (.inr (M.las[k]).nm),.ref (Z.G (.lo k))]) (am.refl m) aa;have e5:aA m X (.tup [kV (.inr (M.las[k]).nm),.ref (Z.G (.lo k))]) X=some (.tup [.str (M.las[k]).nm,.ref (Z.G (.lo k))]):=ae;generalize aA m X (.tup [kV (.inr (M.las[k]).nm),.ref (Z.G (.lo k))])=t at v e5⊢;have ad:tT P w K a H t M Z c:=⟨R,λb o e n=>v _ _ (W b o e n)⟩;refine⟨X,U rfl ⟨aW.of e5,rfl,_,U rfl (aq ⟨_,U rfl (aq ⟨rfl,j3 (bD ?_)⟩)⟩)⟩⟩;have al:=ad.at_ (r:=.lo k) (by simp only[cont,hl];rfl) (by simp);refine U rfl (ip al T.bJ T.gj rfl rfl ⟨ls rfl,λy an=>?_⟩);have L:=aj (o:=.tup [.str (M.las[k]).nm,.int (M.las[k]).sl]) (am.refl t) an;have e6:aA t y (.tup [.str (M.las[k]).nm,.int (M.las[k]).sl]) y=some (.tup [.str (M.las[k]).nm,.int (M.las[k]).sl]):=ae;show aA t y (.tup [.str (M.las[k]).nm,.int (M.las[k]).sl]) D=some (.lst f)/\_;generalize aA t y (.tup [.str (M.las[k]).nm,.int (M.las[k]).sl])=H6 at L e6⊢;have N:=L _ _ (v _ _ p);have kp:Kp H6 (aA H6 D (.lst (f++[.ref y]))):=.lst N;have a0:f.length=k:=by have:=Paired.length l;rw[oe]at this;lia
   refine⟨N,by rw[lm];lia,lf V ⟨λb o e n=>by rw[ak (aD e F)];exact L _ _ (v _ _ (W b o e n)),by rw[ak nd];exact L _ _ (v _ _ j),ae,?_⟩⟩;rw[dI hl];exact Paired.snoc (Ds.kp ((Kp.trans (.of v) (.of L)).trans kp) l) ⟨y,rfl,kp.tq (aW.of e6)⟩
  ·rintro f m⟨W,j,p,l⟩;rw[mu (f_ _)]at l;refine⟨⟨j,by rw[iW,c_];exact f_ _⟩,Z.G .ln,_,ep,j,?_⟩;have sF:am H (aA m (Z.G .ln) (.dK (jV (M.las.map cR.nm) λi=>.ref (Z.G (.lo i))))):=λb o e=>by
    by_cases z:b=Z.G .ln
    ·rw[z,B]at e;rw[z,ae];exact e
    ·rw[ak z];exact W b o e z
   have kp:Kp m (aA m (Z.G .ln) (.dK (jV (M.las.map cR.nm) λi=>.ref (Z.G (.lo i))))):=⟨λu xs e=>by rw[ak λz=>by rw[z,j]at e;cases e];exact e,λu o⟨o',e⟩=>⟨o',by rw[ak λz=>by rw[z,j]at e;cases e];exact e⟩⟩;exact q D f _ sF (by rw[ak (pv nd)];exact p) (Ds.kp kp l)
end
def qJ(p s x y:Int):Int:=if s=p then y else(x+s*y)%p
inductive Gc(vs:List V)(H:Hp)(Q:VK)(_E:XK):Prop|mk(p s x y:Int)(_:vs=[.int p,.int s,.int x,.int y])(_:(2<=p/\p<=997))(_:(0<=s/\s<=p))(_:(0<=x/\x<p))(_:(0<=y/\y<p))(_:Q (.int (qJ p s x y)) H)
def IW(K:R7)(H:Hp)(S:AS)(n:Nat)(c:List V):Prop:=c.length=n/\∀(q:Nat)(v:V),c[q]?=some v->FJ K H S q v
inductive En(P:Sb)(w:World)(K:R7)(a:iK)(vs:List V)(H:Hp)(Q:VK)(_E:XK):Prop|mk(M:cy)(Z:ZS)(c i:Nat)(l:cR)(_:vs=[.ref (Z.G .hh),.str l.nm])(_:cE P w K a H M Z c)(_:M.las[i]?=some l)(_:∀(r:Addr)(us:List V)H',am H H'->H r=none->H' r=some (.lst us)->IW K H' l.S M.p us->Q (.ref r) H')
def O0(M:cy):List (Str×Str):=M.trs.flatMap λt=>t.arms.map λz=>(t.nm,z)
def zS(K:R7)(H:Hp)(u:V)(y:Str×Str):Prop:=∃b,u=.ref b/\aW K H b [.str y.1,.str y.2]
def zS.kp(e:Kp H H'){c:List V}{d:List (Str×Str)}(h:Paired (zS K H) c d):Paired (zS K H') c d:=Paired.mapP h λ_ _ q=>q.imp λ_ q=>⟨q.1,e.tq q.2⟩
inductive JV(K:R7)(vs:List V)(H:Hp)(Q:VK)(_E:XK):Prop|mk(sc:Addr)(ns:Sh)(M:cy)(A:BR)(c:Nat)(_:vs=[.ref sc,.ref A.pl])(_:tU K H sc ns M A c)(_:∀(r:Addr)(us:List V)H',am H H'->H' r=some (.lst us)->Paired (zS K H') us (O0 M)->Q (.ref r) H')
inductive El(P:Sb)(w:World)(K:R7)(a:iK)(vs:List V)(H:Hp)(Q:VK)(_E:XK):Prop|mk(M:cy)(Z:ZS)(c:Nat)(v y:V)(_:vs=[.ref (Z.G .hh),v,y])(_:cE P w K a H M Z c)(_:(xj K H v\/∃(j:Nat)(t:eh),v=.str t.nm/\M.trs[j]?=some t/\(xj K H y\/∃z,y=.str z/\Wd z/\z∉t.arms)))(_:∀H',am H H'->Q (.bl true) H')
section
def EK(T:Txt K mg a):aO P w K mg base dk 1 a.rY.x a.rY.d ["_law_p","_law_slope","_law_x","_law_y"] Gc:=by
 refine T.rY.ok Ez λb A outer s H c Q E e h=>?_
 ·obtain⟨p,f,x,y,rfl,g,i,j,k,q⟩:=h;refine⟨_,(ag (aJ (aE aS (Y 1) (Y 0) (aF _)) (ah (ax (Y 3))) aC) (ah (ax (av aQ (av bG (Y 2) (av fE (Y 1) (Y 3))) (Y 0))))),?_⟩
  unfold qJ at q;refine U rfl (U rfl ⟨rfl,U rfl (ko (λh=>?_) (λh=>?_))⟩)
  ·rw[kw (V.int.inj h)]at q;exact U rfl q
  ·rw[ku λz=>h (by rw[z])]at q
   walk_at "a"
   refine⟨.inl ⟨by omega,by omega⟩,?_⟩
   walk_at "a"
   exact q
def Cl(T:Txt K mg a):aO P w K mg base dk 5 a.m8.x a.m8.d ["_law_house","_law_name"] (En P w K a):=by
 refine T.m8.ok B9 λN A outer s H X Q E I h=>?_
 ·obtain⟨M,Z,c,i,l,rfl,t,R,q⟩:=h;refine⟨_,(ah (ax (wc rR ["_law_place_here"] [] [2] (ai mR) (cw 2) (cP rfl T.dP (ac (kM (Y 0) T.az T.cD.m ((jn (P:=P) (w:=w) T).mono (by decide)) I T.cD.b .nil bh) O)) (λcl C s₀ H₀ ex=>⟨(qL rR ["_law_place_here"] 2),cr,(bo (Y 0) T.az T.eU.m ((u5 (P:=P) (w:=w) T).mono (by decide)) I T.eU.b .nil DA (ac (Y 1) (ac (Y 2) O)))⟩)))),?_⟩
  have hp:=t.ok.p;refine nh t.g.house rfl rfl ⟨M,Z,c,rfl,t,(M.p:Int),rfl,by omega,by omega,λD F=>?_⟩;refine eO (K:=K) (lo:=0) (n:=(M.p:Int).toNat) (λj e H'=>am H H'/\H' D=some (.lst e)/\IW K H' l.S j e) ⟨aj (am.refl _) F,ae,rfl,λq v z=>(nomatch z)⟩ ?_ ?_
  ·rintro j e J V⟨y,f,o⟩;rw[show(0:Int)+(j:Int)=((j:Nat):Int)by lia];refine aq (j3 (bD ?_));refine nh (y _ _ t.g.house) rfl rfl (U rfl (U rfl ⟨M,Z,c,i,l,(j:Int),rfl,t.same y,R,by omega,by omega,λv L G W=>?_⟩));have B:=G _ _ f;have kp:Kp L (aA L D (.lst (e++[v]))):=.lst B;refine⟨B,by rw[o.1,lm];omega,lf V ⟨bR (y.trans G) F,ae,by rw[kt,o.1];rfl,λk u r=>?_⟩⟩
   by_cases z:k<e.length
   ·rw[so z]at r;exact((o.2 k u r).kp (.of G)).kp kp
   ·rw[z7 (Qt z)]at r;have h1:=(d_.mp r).1;have h1:k-e.length<1:=h1;have h2:=o.1;obtain rfl:k=j:=by omega
    rw[h2,Nat.sub_self]at r;obtain rfl:=m_ r;exact W.kp kp
  ·rintro e J⟨y,f,o⟩;rw[ot]at o;exact q D e J y F f o
def sk(T:Txt K mg a):aO P w K mg base dk 6 a.ju.x a.ju.d ["_law_house","_law_trial","_law_arm"] (El P w K a):=by
 refine T.ju.ok Ap λi A outer s H p Q E k h=>?_
 ·obtain⟨M,Z,c,v,y,rfl,l,h,q⟩:=h;refine⟨_,(ag (Mu rfl rfl T.vw rfl T.xE (λE g r u n=>(DN (K3 ((pj (P:=P) (w:=w) T).mono (by decide)) k rfl T.dz.m T.dz.f.kp T.dz.b .nil n (ac (Y 0) (ac (Y 1) (ac (Y 2) O)))))) (λz=>(ah (ax eD)))) (ah (ax eD))),?_⟩
  refine U rfl (U rfl (U rfl ⟨M,Z,c,v,y,rfl,l,?_⟩));exact h.imp (λh=>⟨h,λH' s=>⟨rfl,q H' s⟩⟩) λ⟨j,t,e,o,h⟩=>⟨j,t,e,o,.inr ⟨h,λH' s=>⟨rfl,q H' s⟩⟩⟩
def G3(T:Txt K mg a):aO P w K mg base dk 4 a.yc.x a.yc.d ["_law_script","_law_plan_here"] (JV K):=by
 refine T.yc.ok ma λap A outer s H vs Q E u h=>?_
 ·obtain⟨sc,ns,M,A,c,rfl,B,q⟩:=h;refine⟨_,(ag (bg 2 ma.nd (bn O)) (ag (dy o_ rfl (d8 K rfl (iX K (Y 1) af)) (ij K rfl rfl (bL (yH (i:=3) ma.nd rfl (.inr rfl)) (bL (qK 4 ma.nd) ii))) (ah (bg 2 ma.nd (av yJ (Y 2) (wc zP ["_law_j"] [] [5] (ai tX) (cw 5) (cP rfl T.dP (ac (Y 4) O)) (λcl C s₀ H₀ ex=>⟨(qL zP ["_law_j"] 5),cr,(bO (ac (Y 3) (ac (pc T.pX (px T) u (ac (Y 5) (ac (pc T.dX (cH T) u (ac (Y 0) (ac af (ac af O)))) O))) O)))⟩)))))) (ah (ax (Y 2))))),?_⟩
  have hP:=B.pl;obtain⟨us,aa,L⟩:=hP.T;refine⟨ls rfl,λW ad=>aq (Cm ?_)⟩;have F:=aj (o:=.lst []) (am.refl H) ad;have e0:aA H W (.lst []) W=some (.lst []):=ae;generalize aA H W (.lst [])=H0 at F e0⊢;have l:=F _ _ aa;have N:=Paired.length L;rw[show(iL M).length=M.trs.length from c_ _]at N;have as:=B.ok.tc;refine U rfl (rX (aX.of (F _ _ hP.pl)) (ao (k:=3) rfl) ⟨A.T,rfl,⟨_,aX.of l⟩,?_⟩);refine gn (xs:=us) (λk X H'=>am H0 H'/\(∃r g v3 v4,H' r=some (.lst g)/\g.length<=4*k/\Paired (zS K H') g ((M.trs.take k).flatMap λt=>t.arms.map λz=>(t.nm,z))/\X=[some (.ref sc),some (.ref A.pl),some (.ref r),v3,v4])) ⟨am.refl _,W,[],_,_,e0,n0 _,.nil,rfl⟩ (λk X H' _ h=>aX.of (h.1 _ _ l)) ?_ ?_
  ·rintro k v X H1 hv⟨R,r,g,v3,v4,u,al,Z,rfl⟩;have hk:=(d_.mp hv).1;obtain⟨y,hy,b,rfl,hb⟩:=Paired.at_ L k v hv;unfold iL at hy;rw[j_]at hy;obtain⟨t,ht,rfl⟩:=Option.map_eq_some_iff.mp hy;have ha:=(B.pn.tn k t ht).2;have a4:=(B.ok.tr t (i_ ht)).a4;refine⟨b,U rfl ⟨am.tseq (F.trans R) hb,rfl,_,U rfl (aq ⟨_,U rfl (aq ⟨rfl,?_⟩)⟩)⟩⟩;refine U rfl (U rfl (U rfl ⟨by omega,by omega,λD hD=>?_⟩));refine eO (K:=K) (lo:=0) (n:=(t.arms.length:Int).toNat) (λj e H'=>am H1 H'/\H' D=some (.lst e)/\e.length<=j/\Paired (zS K H') e ((t.arms.take j).map λz=>(t.nm,z))) ⟨aj (am.refl _) hD,ae,n0 _,.nil⟩ ?_ ?_
   ·rintro j e H2 hj⟨G,m,p,f⟩;rw[show(0:Int)+(j:Int)=((j:Nat):Int)by lia];refine aq (j3 (bD ?_));refine U rfl (U rfl (U rfl ⟨sc,ns,3,4,rfl,((F.trans R).trans G).seq B.sq,B.len,⟨by decide,by decide⟩,⟨by decide,by decide⟩,(j:Int),bY ns 3 4,rfl,λH3 I=>⟨ls rfl,λJ an=>?_⟩⟩));have s4:=aj (o:=.tup [.str t.nm,.str (bU j (bY ns 3 4))]) (am.refl H3) an;have e4:aA H3 J (.tup [.str t.nm,.str (bU j (bY ns 3 4))]) J=some (.tup [.str t.nm,.str (bU j (bY ns 3 4))]):=ae;show aA H3 J (.tup [.str t.nm,.str (bU j (bY ns 3 4))]) D=some (.lst e)/\_;generalize aA H3 J (.tup [.str t.nm,.str (bU j (bY ns 3 4))])=H4 at s4 e4⊢;have S:=s4 _ _ (I _ _ m);have kp:Kp H4 (aA H4 D (.lst (e++[.ref J]))):=.lst S;refine⟨S,by rw[lm];omega,lf hj ⟨bR ((G.trans I).trans s4) hD,ae,by rw[kt];exact wr p,?_⟩⟩;have ej:t.arms[j]?=some (bU (j:Int) (bY ns 3 4)):=by rw[ha];unfold fi;rw[j_,Rx (by omega)];rfl
    rw[dI ej,k_];exact Paired.snoc (zS.kp ((Kp.of (I.trans s4)).trans kp) f) ⟨J,rfl,kp.tq (aW.of e4)⟩
   ·rintro e H2⟨G,m,p,f⟩;rw[ot]at p f;rw[mu (f_ _)]at f;refine⟨r,D,g,e,rfl,rfl,G _ _ u,m,by rw[lm];omega,λr' V=>aq ⟨aj (R.trans G) V,r',g++e,_,_,ae,by rw[kt];omega,?_,rfl⟩⟩;have I:=aj (o:=.lst (g++e)) (am.refl H2) V;rw[dI ht,List.flatMap_append,List.flatMap_singleton];exact Ce (zS.kp (.of (G.trans I)) Z) (zS.kp (.of I) f)
  ·rintro X H1⟨R,r,g,v3,v4,u,al,Z,rfl⟩;rw[N,mu (f_ _)]at Z;exact U rfl (q r g H1 (F.trans R) u Z)
end
def kQ(h:H b=some o)(n:H b=none):False:=by rw[h]at n;cases n
def HF(c:H o=some x)(h1:∀d,x≠.tup d)(h2:∀y z,x≠.frz y z)(f:∀b ob,H b=some ob->b≠o->H' b=some ob):Kp H H':=⟨λu d e=>f _ _ e λz=>(by rw[z,c]at e;exact h1 _ (m_ e)),λu y⟨g,e⟩=>⟨g,f _ _ e λz=>by rw[z,c]at e;exact h2 _ _ (m_ e)⟩⟩
section
variable{P:Sb}{w:World}{K:R7}{a:iK}{F H g C I:Hp}{M j:cy}{Z p:ZS}{ns:Sh}{A:BR}{dd D:Addr}{c:Nat}{v s:List (cg×V)}{ls t:Sc}{E B:List (Str×Nat)}{d:Dd}{f:List V}
def bA.ntup(h:bA P w K a H M Z)(L:jI M Z b):(∀f,H b≠some (.tup f))/\∀x y,H b≠some (.frz x y):=by
 have lst:∀l f,H l=some (.lst f)->(∀N,H l≠some (.tup N))/\∀x y,H l≠some (.frz x y):=λl f e=>by rw[e];exact⟨λ_ z=>(nomatch z),λ_ _ z=>(nomatch z)⟩
 rcases L with⟨r,O,rfl⟩|⟨i,hi,x,k,e⟩|⟨x,k,e⟩
 ·obtain⟨o,q⟩:=mY P w a Z O;have im:=(h.imm (H':=λb=>if b=Z.G r then none else H b) q λb o e n=>by show(if b=Z.G r then none else H b)=_;rw[ku n];exact e).kp;refine⟨λf e=>?_,λx y e=>?_⟩
  ·have:=im.tp _ _ e;rw[kw rfl]at this;cases this
  ·obtain⟨_,this⟩:=im.fz _ _ ⟨_,e⟩;rw[kw rfl]at this;cases this
 ·obtain⟨_,⟨m,q,_⟩,_⟩:=h.tabs i _ (h_ hi);obtain⟨l,f,u,J⟩:=q.ex x k;rw[u]at e;cases e;exact lst _ _ J
 ·obtain⟨l,f,u,J⟩:=h.came.ex x k;rw[u]at e;cases e;exact lst _ _ J
def bA.stp(h:bA P w K a H M Z)(st:gu H M Z g j p):Kp H g:=⟨λu f e=>st.fr _ _ e λz=>(h.ntup z).1 _ e,λu o⟨b,e⟩=>⟨b,st.fr _ _ e λz=>(h.ntup z).2 _ _ e⟩⟩
def gu.nf(st:gu H M Z g j p)(e:H b=some o)(n:¬jI M Z b):¬jI j p b:=λz=>(st.fp b z).elim n (kQ e)
end
def fk(g:Nat->Int):Nat->Int|0=>0|n+1=>fk g n+g n
theorem i7{g h:Nat->Int}:∀n,(∀i,i<n->g i=h i)->fk g n=fk h n|0,_=>rfl|n+1,e=>by rw[fk,fk,i7 n (λi hi=>e i (by omega)),e n (by omega)]
def qz{g:Nat->Int}(n:Nat)(e:∀i,i<n->g i=0):fk g n=0:=by induction n with|zero=>rfl|succ n b=>rw[fk,b (λi hi=>e i (by omega)),e n (by omega)];rfl
def F2{g:Nat->Int}(n m:Nat)(hm:m<n)(e:∀i,i<n->g i=if i=m then 1 else 0):fk g n=1:=by induction n with|zero=>omega|succ n b=>
  rw[fk,e n (by omega)]
  by_cases h:n=m
  ·rw[kw h,qz n λi hi=>by rw[e i (by omega),ku (by omega)]];rfl
  ·rw[ku h,b (by omega) λi hi=>e i (by omega)];rfl
theorem uk{g h:Nat->Int}:∀n,fk (λi=>g i+h i) n=fk g n+fk h n|0=>rfl|n+1=>by rw[fk,fk,fk,uk n];lia
theorem xr{g:Nat->Nat->Int}(m:Nat):∀n,fk (λi=>fk (g i) m) n=fk (λj=>fk (λi=>g i j) n) m|0=>by show(0:Int)=_;exact(qz m λ_ _=>rfl).symm|n+1=>by rw[fk,xr m n,<-uk];exact i7 m λi _=>rfl
def E9(c:Prop)[Decidable c]:Int:=if c then 1 else 0
def nM.tuq{M:cy}{c i j:Nat}{t f:eh}(h:nM M c)(g:M.trs[i]?=some t)(d:M.trs[j]?=some f)(e:t.nm=f.nm):i=j:=(Qp (by rw[c_];exact(d_.mp g).1) h.tn).mp (by rw[j_,j_,g,d];exact tA some e)
theorem nZ(c:Int):∀n:Nat,fk (λ_=>c) n=n*c|0=>by rw[Int.natCast_zero,Int.zero_mul];rfl|n+1=>by show fk (λ_=>c) n+c=_;rw[nZ c n,Int.natCast_add,Int.add_mul,Int.natCast_one,Int.one_mul]
theorem vz{p:Nat}{φ:Nat->Int}:∀{L:Sh},L.Nodup->(∀a∈L,∃m,m<p/\∀x,x<p->(φ x=a↔x=m))->fk (λx=>E9 (φ x∈L)) p=L.length
 |[],_,_=>qz p λi _=>ku (nomatch·)|a::L,nd,h=>by
  obtain⟨na,nd⟩:=R4.mp nd;obtain⟨m,hm,c⟩:=h a mm;have e:∀i,i<p->E9 (φ i∈a::L)=E9 (φ i=a)+E9 (φ i∈L):=λi _=>by
   unfold E9
   by_cases z:φ i=a
   ·rw[kw z,kw (by rw[z];exact mm),ku (by rw[z];exact na)];rfl
   ·rw[ku z,Int.zero_add]
    by_cases y:φ i∈L
    ·rw[kw y,kw (k4 _ y)]
    ·rw[ku y,ku λq=>(pw.mp q).elim z y]
  rw[i7 p e,uk,vz nd λb d=>h b (k4 _ d),F2 p m hm λi hi=>by unfold E9;simp only[c i hi],ol,Int.natCast_add,Int.natCast_one,Int.add_comm]
def NW(p:Nat)(s:Int)(L:Sh):Int:=fk (λx=>fk (λy=>E9 (qJ p s x y∈L)) p) p
def Jl{p:Nat}{s:Int}{L:Sh}(j:0<=s/\s<=p)(nd:L.Nodup)(f:∀a∈L,0<=a/\a<p):NW p s L=p*L.length:=by
 unfold NW qJ
 by_cases z:s=p
 ·simp only[kw z];rw[i7 p λi _=>vz (φ:=λy=>(y:Int)) nd λa d=>⟨a.toNat,by have:=f a d;omega,λx _=>by have:=f a d;omega⟩,nZ]
 ·simp only[ku z];rw[xr,i7 p λi _=>vz (φ:=λx=>((x:Int)+s*(i:Int))%p) nd λa d=>?_,nZ];obtain⟨g,a1⟩:=f a d;generalize s*(i:Int)=c;have h:(0:Int)<p:=by omega
  have b:=I_ (a-c) (show(p:Int)≠0 by omega);have k:=z_ (a-c) h;refine⟨((a-c)%p).toNat,by omega,λx l=>⟨λe=>?_,λe=>?_⟩⟩
  ·have:(x:Int)=(a-c)%p:=by rw[<-e,Int.emod_sub_emod,Int.add_sub_cancel,RK (by omega) (by omega)]
   lia
  ·rw[show(x:Int)=(a-c)%p by omega,Int.emod_add_emod,Int.sub_add_cancel,RK g a1]
theorem Du{f:cR->Int}{d:cR}:∀{ls:List cR},(ls.map cR.nm).Nodup->d∈ls->(∀l∈ls,l.nm≠d.nm->f l=0)->(ls.map f).sum=f d
 |l::ls,nd,hm,h=>by
  obtain⟨n1,n2⟩:=R4.mp nd;rw[oD,List.sum_cons];rcases pw.mp hm with rfl|hm
  ·have z:(ls.map f).sum=0:=by
    have:∀{c:List cR},(∀l∈c,f l=0)->(c.map f).sum=0:=by
     intro c
     induction c with|nil=>exactλ_=>rfl|cons m c g=>exactλk=>by rw[oD,List.sum_cons,k m mm,g λl b=>k l (k4 _ b)];rfl
    exact this λl b=>h l (k4 _ b) λe=>n1 (nk.mpr ⟨l,b,e⟩)
   rw[z,RL]
  ·rw[Du n2 hm λl b=>h l (k4 _ b),h l mm λe=>n1 (nk.mpr ⟨d,hm,e.symm⟩),Int.zero_add]
def zy(p:Nat)(ls:List cR)(k:bS):Int:=(ls.map λl=>(p:Int)*(l.S.pl k).length).sum
def IG{M:cy}{c i j:Nat}{l:cR}{t:eh}{z:Str}(d:nM M c)(n:M.las[i]?=some l)(g:M.trs[j]?=some t)(hh:l.nm=t.home):zy M.p M.las (aZ t.nm z)=M.p*(l.S.pl (aZ t.nm z)).length:=by refine Du (f:=λl=>(M.p:Int)*(l.S.pl (aZ t.nm z)).length) d.ln (i_ n) λm h hn=>?_;cases e:m.S.pl (aZ t.nm z)with|nil=>exact Int.mul_zero _|cons q r=>
  exfalso;rcases(d.la m h).own _ q (by rw[e];exact mm)with e|⟨o,k,s,y,_,e⟩
  ·have:t.nm="":=by injection e with e;injection e with e _;injection e
   have h1:=(d.tr t (i_ g)).wd.lo;rw[this]at h1;exact absurd h1 (by decide)
  ·have u:t.nm=o.nm:=by injection e with e;injection e with e _;injection e
   obtain⟨x,b⟩:=m3.mp k;have v:=d.tuq b g u.symm;rw[v,g]at b;obtain rfl:=m_ b;exact hn (by rw[hh,<-s])
def Fq{p:Nat}{ls:List cR}{l:cR}{k:bS}:zy p (ls++[l]) k=zy p ls k+p*(l.S.pl k).length:=by unfold zy;rw[k_,List.sum_append,QO,List.sum_singleton]
def J6{p:Nat}{s x y:Int}(d:0<p)(c:0<=y/\y<p):0<=qJ p s x y/\qJ p s x y<p:=by
 unfold qJ
 split
 ·exact c
 ·exact⟨I_ _ (by omega),z_ _ (by omega)⟩
def Cn(P:Sb)(w:World)(K:R7)(d:Addr)(n:Nat)(F:Str->Str->Int)(H:Hp):Prop:=∃(b:List iz)(N:bS->Int),H d=some (dM P w d b)/\dF K H b/\b.length<=n/\(∀k,(ft b k).getD (.int 0)=.int (N k))/\∀x y,N (aZ x y)=F x y
def FL(d:Addr)(H H':Hp):Prop:=∀b o,H b=some o->b≠d->H' b=some o
def FL.of{d:Addr}(s:am H H'):FL d H H':=λb o e _=>s b o e
def FL.trans{d:Addr}{H c f:Hp}(h:FL d H c)(g:FL d c f):FL d H f:=λb o e n=>g b o (h b o e n) n
def FL.same{d:Addr}{H H' c:Hp}(h:FL d H H')(s:am c H)(n:c d=none):am c H':=λb o e=>h b o (s b o e) (aD e n)
def Cn.same{d:Addr}{n:Nat}{F:Str->Str->Int}(h:Cn P w K d n F H)(s:am H H'):Cn P w K d n F H':=let⟨b,N,h1,h2,h3⟩:=h
 ⟨b,N,s _ _ h1,λx c=>dC (.of s) (h2 x c),h3⟩
def Cn.kp{d:Addr}{n:Nat}{F:Str->Str->Int}(h:Cn P w K d n F H)(o:FL d H H'):Kp H H':=let⟨b,N,h1,_⟩:=h
 HF h1 (λ_ z=>(nomatch z)) (λ_ _ z=>(nomatch z)) o
def JY:∀i∈List.range 12,uo i≠"nobody":=by decide+kernel
def ML:∀r∈List.range 4,∀i∈List.range 11,∀c∈List.range 26,EQ (Aa r) (i:Int) c≠"nobody":=by decide+kernel
def FS(k N:Int):bU k N≠"nobody":=by
 unfold bU;have b1:=bu (k+N/80) (show(0:Int)<12 by decide);have b2:=bu (k+N/80) (show(0:Int)<26 by decide);have b3:=bu N (show(0:Int)<4 by decide);have b4:=Dm N;have b5:=qA N
 split
 ·exact JY _ (by rw[q_];omega)
 ·have:=ML (N%4).toNat (by rw[q_];omega) (BQ N).toNat (by rw[q_];omega) ((k+N/80)%26).toNat (by rw[q_];omega);rw[show(((BQ N).toNat:Nat):Int)=BQ N by lia]at this;exact this
def DT{xs:List V}{i:Int}(h0:0<=i)(h1:i<xs.length):∃v∈xs,we xs i=some v:=by obtain⟨n,rfl⟩:∃n:Nat,i=n:=⟨i.toNat,by omega⟩;have h:=h_ (show n<xs.length by omega);exact⟨_,i_ h,ao h⟩
def yM{x:Str}(h1:x.length<=60)(h2:xy mD 12 x=false):xj K H (.str x):=.inr ⟨x,rfl,h1,h2⟩
inductive Jy(P:Sb)(w:World)(K:R7)(a:iK)(vs:List V)(H:Hp)(Q:VK)(_E:XK):Prop|mk(sc:Addr)(ns:Sh)(M:cy)(Z:ZS)(A:BR)(c:Nat)(_:vs=[.ref sc,.ref (Z.G .hh),.ref A.pl])(_:tU K H sc ns M A c)(_:cE P w K a H M Z c)(_:∀H',am H H'->Q (.bl true) H')
section
def EJ(T:Txt K mg a):aO P w K mg base dk 7 a.rW.x a.rW.d ["_law_script","_law_house","_law_plan_here"] (Jy P w K a):=by
 refine T.rW.ok du λc1 A outer s H vs Q E D h=>?_
 ·obtain⟨sc,ns,M,Z,A,c,rfl,hA,hZ,q⟩:=h;refine⟨_,(ag (bg 3 du.nd (kM (Y 1) T.az T.cD.m ((jn (P:=P) (w:=w) T).mono (by decide)) D T.cD.b .nil bh)) (ag (bg 4 du.nd (Aw (P:=P) (w:=w))) (ag (dy o_ rfl (d8 K rfl (kM (Y 1) T.az T.d0.m ((tF (P:=P) (w:=w) T).mono (by decide)) D T.d0.b .nil bh)) (ij K rfl rfl (bL (qK 5 du.nd) (bL (qK 6 du.nd) ii))) (ag (bg 7 du.nd (pc T.m8 (Cl T) D (ac (Y 1) (ac (Y 5) O)))) (ah (dy o_ rfl (cP rfl T.dP (ac (Y 3) O)) (qK 8 du.nd) (ah (dy o_ rfl (cP rfl T.dP (ac (Y 3) O)) (qK 9 du.nd) (ag (bg 10 du.nd (iX K (Y 7) (pc T.rY (EK T) D (ac (Y 3) (ac (Y 6) (ac (Y 8) (ac (Y 9) O))))))) (ah (ki (av bG (uS (P:=P) (w:=w) K rfl (ck D) (Y 4) (Y 10) af ⟨rfl,rfl,rfl,rfl⟩) af) (kj (Y 4) (Y 10) (B4 (P:=P) (w:=w) K rfl (ck D)))))))))))) (ag (dy o_ rfl (d8 K rfl (pc T.yc (G3 T) D (ac (Y 0) (ac (Y 2) O)))) (qK 11 du.nd) (ag (bg 12 du.nd (bw ((pj T).mono (by decide)) D rfl T.dz.m T.dz.f.kp T.dz.b .nil DA (ac (Y 1) (ac (df K (Y 11) af) (ac (df K (Y 11) af) O))))) (ag (aJ (PW.pt (eC (bT (aM K rfl (ay (i3 K rfl) (by rfl) T.bx L2.aV (ac (Y 12) (ac (jP rfl T.Lr L2.BA) O))) (λ_=>rfl))) (eC (aM K rfl (ay (i3 K rfl) (by rfl) T.bx L2.aV (ac (Y 12) (ac (jP rfl T.He L2.xV) O))) (λ_=>rfl)) (db (aE GV (Y 12) (uS (P:=P) (w:=w) K rfl (ck D) (Y 4) (Y 11) af ⟨rfl,rfl,rfl,rfl⟩) (aF _)))))) (ah (ax eD)) aC) (ah (aJ (bT (aM K rfl (pc T.ju (sk T) D (ac (Y 1) (ac (df K (Y 11) af) (ac (iX K (bn (ac aB (ac aB (ac mn (ac (bn (ac aB O)) (ac af O)))))) (av aQ (pc T.dX (cH T) D (ac (Y 0) (ac af (ac af O)))) af)) O)))) (λ_=>rfl))) (ah (ax eD)) aC))))) (ah (ax (pc T.ju (sk T) D (ac (Y 1) (ac (iX K (bn (ac aB (ac aB (ac mn (ac (bO (ac aB O)) (ac (bn (ac aB O)) (ac af O))))))) (av aQ (pc T.dX (cH T) D (ac (Y 0) (ac af (ac af O)))) af)) (ac aB O)))))))))),?_⟩
  have hp:=hA.pn.pr.le;have c2:=hZ.ok.l4;refine nh hZ.g.house rfl rfl ⟨M,Z,c,rfl,hZ,aq (Cm λd hd=>aq (Cm ?_))⟩;have s0:=aj (o:=dM P w d []) (am.refl H) hd;have e0:aA H d (dM P w d []) d=some (dM P w d []):=ae;generalize aA H d (dM P w d [])=H0 at s0 e0⊢;refine nh (s0 _ _ hZ.g.house) rfl rfl ⟨M,Z,c,rfl,hZ.same s0,λr us H1 s1 D a2=>⟨r,rfl,⟨_,aX.of D⟩,?_⟩⟩;have ba:=s0.trans s1;have bv:r≠d:=λz=>by rw[z,s1 _ _ e0]at D;cases D
  have bb:Cn P w K d 0 (λx y=>zy M.p (M.las.take 0) (aZ x y)) H1:=⟨[],λ_=>0,s1 _ _ e0,λx hx=>(nomatch hx),f_ _,λ_=>rfl,λ_ _=>rfl⟩;refine gn (xs:=us) (λi I H'=>FL d H1 H'/\Cn P w K d (i*169) (λx y=>zy M.p (M.las.take i) (aZ x y)) H'/\∃v5 v6 v7 v8 L u B C,I=[some (.ref sc),some (.ref (Z.G .hh)),some (.ref A.pl),some (.int M.p),some (.ref d),v5,v6,v7,v8,L,u,B,C]) ⟨λ_ _ e _=>e,by rw[Nat.zero_mul];exact bb,_,_,_,_,_,_,_,_,rfl⟩ (λi I H' _ h=>aX.of (h.1 _ _ D bv)) ?_ ?_
  ·rintro i v I H2 R⟨o2,ad,v5,v6,v7,v8,L,u,B,C,rfl⟩;have hi:=(d_.mp R).1;have c3:=Paired.length a2;have bz:=bb.kp o2;obtain⟨l,hl,b,rfl,hb⟩:=Paired.at_ a2 i v R;have al:=o2.same ba hd;refine⟨b,U rfl ⟨bz.tq hb,rfl,_,U rfl (aq ⟨_,U rfl (aq ⟨rfl,?_⟩)⟩)⟩⟩;refine U rfl (U rfl ⟨M,Z,c,i,l,rfl,hZ.same al,hl,λro vs H3 s3 ap bN ho=>aq (Cm ?_)⟩);have bc:=ad.same s3;have b0:ro≠d:=λz=>by obtain⟨F,N,h1,_⟩:=ad;rw[z,h1]at ap;cases ap
   have hL:=hZ.ok.la l (i_ hl);have bi:=hL.sl;refine U rfl (U rfl ⟨by omega,by omega,?_⟩);refine gH (lo:=0) (n:=(M.p:Int).toNat) (λx I H'=>FL d H3 H'/\Cn P w K d (i*169+x*M.p) (λy z=>zy M.p (M.las.take i) (aZ y z)+fk (λx'=>fk (λy'=>E9 (qJ M.p l.sl x' y'∈l.S.pl (aZ y z))) M.p) x) H'/\∃v8 L u B C,I=[some (.ref sc),some (.ref (Z.G .hh)),some (.ref A.pl),some (.int M.p),some (.ref d),some (.str l.nm),some (.int l.sl),some (.ref ro),v8,L,u,B,C]) ⟨λ_ _ e _=>e,by rw[Nat.zero_mul];simpa only[fk,RL,RI]using bc,_,_,_,_,_,rfl⟩ ?_ ?_
   ·rintro x I H4 hx⟨o4,an,v8,L,u,B,C,rfl⟩;rw[show(0:Int)+(x:Int)=((x:Nat):Int)by omega];rw[ot]at hx;refine aq (U rfl (U rfl ⟨by omega,by omega,?_⟩));refine gH (lo:=0) (n:=(M.p:Int).toNat) (λy I H'=>FL d H3 H'/\Cn P w K d (i*169+x*M.p+y) (λy1 z=>zy M.p (M.las.take i) (aZ y1 z)+fk (λx'=>fk (λy'=>E9 (qJ M.p l.sl x' y'∈l.S.pl (aZ y1 z))) M.p) x+fk (λy'=>E9 (qJ M.p l.sl x y'∈l.S.pl (aZ y1 z))) y) H'/\∃L u B C,I=[some (.ref sc),some (.ref (Z.G .hh)),some (.ref A.pl),some (.int M.p),some (.ref d),some (.str l.nm),some (.int l.sl),some (.ref ro),some (.int (x:Nat)),L,u,B,C]) ⟨o4,by simpa only[fk,RL,RI]using an,_,_,_,_,rfl⟩ ?_ ?_
    ·rintro y I H5 hy⟨o5,W,L,u,B,C,rfl⟩;rw[show(0:Int)+(y:Int)=((y:Nat):Int)by omega];rw[ot]at hy;have hq:=J6 (s:=l.sl) (x:=(x:Int)) (y:=(y:Int)) (show 0<M.p by omega) ⟨by omega,by omega⟩;refine aq ?_;refine U rfl (U rfl (U rfl (U rfl (U rfl ⟨(M.p:Int),l.sl,(x:Int),(y:Int),rfl,⟨by omega,by omega⟩,bi,⟨by omega,by omega⟩,⟨by omega,by omega⟩,?_⟩))));obtain⟨n,hn⟩:∃n:Nat,qJ M.p l.sl x y=n:=⟨(qJ M.p l.sl x y).toNat,by omega⟩;rw[hn]at hq⊢;obtain⟨v,R⟩:∃v,vs[n]?=some v:=⟨_,h_ (by rw[ho.1];omega)⟩;refine⟨ro,vs,n,v,rfl,rfl,aX.of (o5 _ _ bN b0),ao R,aq (Cm ?_)⟩;obtain⟨k,hk,a0⟩:∃k,cN K H5 k v/\∀y z,(aZ y z=k↔(n:Int)∈l.S.pl (aZ y z)):=by
      rcases(ho.2 n v R).kp (bc.kp o5)with⟨rfl,h⟩|⟨y,z,h1,h2⟩
      ·exact⟨.inr [],rfl,λy z=>⟨λe=>(nomatch e),λe=>absurd e (h _)⟩⟩
      ·exact⟨_,h2,λy' z'=>⟨λe=>by rw[e];exact h1,λe=>hL.ok.dj _ _ _ e h1⟩⟩
     obtain⟨F,N,h1,h2,h3,h4,h5⟩:=W;refine U rfl ⟨d,F,rfl,h1,U rfl ⟨F,k,h1,h2,hk,?_⟩⟩;rw[h4 k];refine r2 (U rfl (U rfl ⟨d,F,k,rfl,h1,h2,hk,?_,?_⟩))
     ·have:=Rt hp.2 hp.2;have:x*M.p<=169:=n7 (Rt (tl hx) (f_ _)) this;rw[lm];lia
     have bj:∀b o,H5 b=some o->b≠d->aA H5 d (dM P w d (fB F k v (.int (N k+1)))) b=some o:=cA;have kp:Kp H5 (aA H5 d (dM P w d (fB F k v (.int (N k+1))))):=HF h1 (λ_ z=>(nomatch z)) (λ_ _ z=>(nomatch z)) bj;refine⟨o5.trans bj,⟨_,λj=>if j=k then N k+1 else N j,ae,λx hx=>dC kp (dF.put h2 hk x hx),n7 (u7 _ _ _ _) (wr h3),λj=>?_,λy1 z=>?_⟩,_,_,_,_,rfl⟩
     ·rw[A8];show _=V.int (if j=k then N k+1 else N j)
      by_cases z:j=k
      ·rw[kw z,kw z];rfl
      ·rw[ku z,ku z];exact h4 j
     ·show(if aZ y1 z=k then N k+1 else N (aZ y1 z))=_+(fk _ y+E9 (qJ M.p l.sl x y∈l.S.pl (aZ y1 z)));rw[hn]
      by_cases e:aZ y1 z=k
      ·rw[kw e,show E9 ((n:Int)∈l.S.pl (aZ y1 z))=1 from kw ((a0 y1 z).mp e),<-e,h5,Int.add_assoc]
      ·rw[ku e,show E9 ((n:Int)∈l.S.pl (aZ y1 z))=0 from ku λq=>e ((a0 y1 z).mpr q),h5,RL]
    ·rintro I H5⟨o5,W,L,u,B,C,rfl⟩;rw[ot]at W;obtain⟨F,N,h1,h2,h3,h4,h5⟩:=W;exact⟨o5,⟨F,N,h1,h2,by rw[Nat.succ_mul];omega,h4,λy z=>(h5 y z).trans (Int.add_assoc _ _ _)⟩,_,_,_,_,_,rfl⟩
   ·rintro I H4⟨o4,an,v8,L,u,B,C,rfl⟩;rw[ot]at an;obtain⟨F,N,h1,h2,h3,h4,h5⟩:=an;refine⟨(o2.trans (.of s3)).trans o4,⟨F,N,h1,h2,?_,h4,λy z=>?_⟩,_,_,_,_,_,_,_,_,rfl⟩
    ·have:=Rt hp.2 hp.2;lia
    ·show _=zy M.p (M.las.take (i+1)) (aZ y z);rw[dI hl,Fq];exact(h5 y z).trans (tA _ (Jl bi (hL.ok.nd _) λa ha=>⟨(hL.ok.in_ _ a ha).1,(hL.ok.in_ _ a ha).2.1⟩))
  ·rintro I H2⟨o2,ad,v5,v6,v7,v8,L,u,B,C,rfl⟩;rw[Paired.length a2,mu (f_ _)]at ad;have al:=o2.same ba hd;refine U rfl (U rfl ⟨sc,ns,M,A,c,rfl,hA.same al,λra as H5 s5 bl b8=>⟨ra,rfl,⟨_,aX.of bl⟩,?_⟩⟩);have W:=ad.same s5;have a3:=al.trans s5;refine gn (xs:=as) (λi I H'=>am H5 H'/\(Ex8 λv5 v6 v7 v8 L u B C=>I=[some (.ref sc),some (.ref (Z.G .hh)),some (.ref A.pl),some (.int M.p),some (.ref d),v5,v6,v7,v8,L,u,B,C])) ⟨am.refl _,_,_,_,_,_,_,_,_,rfl⟩ (λi I H' _ h=>aX.of (h.1 _ _ bl)) ?_ ?_
   ·rintro i v I H6 R⟨s6,v5,v6,v7,v8,L,u,B,C,rfl⟩;obtain⟨⟨tn,z⟩,hy,b,rfl,hb⟩:=Paired.at_ b8 i v R;obtain⟨t,ht,hz⟩:=List.mem_flatMap.mp (i_ hy);obtain⟨z',b9,e⟩:=nk.mp hz;obtain⟨rfl,rfl⟩:=QB e;obtain⟨j,hj⟩:=m3.mp ht;obtain⟨l,cc,hh⟩:=nk.mp (hZ.ok.tr t ht).hm;obtain⟨li,hl⟩:=m3.mp cc;have a5:=am.tseq s6 hb;have ci:=hZ.same (a3.trans s6);refine aq ?_;refine U rfl (U rfl (rX a5 (ao (k:=0) rfl) (U rfl (rX a5 (ao (k:=1) rfl) ⟨M,Z,c,.str t.nm,.str z',rfl,ci,.inr ⟨j,t,rfl,hj,.inl ⟨li,l,z',rfl,hl,hh,b9,λH7 s7=>aq (Cm ?_)⟩⟩⟩))));obtain⟨F,N,h1,h2,h3,h4,h5⟩:=W.same (s6.trans s7);have bt:=am.tseq s7 a5;have cF:=(a3.trans s6).trans s7;refine U rfl ⟨_,"int",_,true,rfl,.int _,de (by decide+kernel),true,rfl,bV ?_⟩;refine U rfl ⟨_,"bool",_,false,rfl,.int _,de (by decide+kernel),false,rfl,bV ?_⟩;refine U rfl (U rfl ⟨d,F,rfl,h1,U rfl ⟨F,aZ t.nm z',h1,h2,⟨b,rfl,bt⟩,?_⟩⟩);rw[h4,(h5 t.nm z').trans (IG hZ.ok hl hj hh),Int.mul_comm];refine⟨rfl,U rfl ?_⟩;rw[nn rfl];refine bV (Cm ?_);have b5:=bu (bY ns 5 62) (show(0:Int)<5 by decide);refine U rfl (U rfl (rX bt (ao (k:=0) rfl) ⟨ls rfl,λJ a6=>?_⟩));have s8:=aj (o:=.lst [.str "old"]) (am.refl H7) a6;have e8:aA H7 J (.lst [.str "old"]) J=some (.lst [.str "old"]):=ae;generalize aA H7 J (.lst [.str "old"])=H8 at s8 e8⊢;refine⟨ls rfl,λX a7=>?_⟩;have s9:=aj (o:=.lst [.str "",.str "nobody",.non,.ref J,.int 7]) (am.refl H8) a7;have e9:aA H8 X (.lst [.str "",.str "nobody",.non,.ref J,.int 7]) X=some (.lst [.str "",.str "nobody",.non,.ref J,.int 7]):=ae;generalize aA H8 X (.lst [.str "",.str "nobody",.non,.ref J,.int 7])=H9 at s9 e9⊢;have aa:=(cF.trans s8).trans s9;obtain⟨v,R,a8⟩:=DT (xs:=[.str "",.str "nobody",.non,.ref J,.int 7]) b5.1 b5.2;refine U rfl ⟨sc,ns,5,62,rfl,aa.seq hA.sq,hA.len,⟨by decide,by decide⟩,⟨by decide,by decide⟩,_,U rfl ⟨rfl,(show(0:Int)<5 by decide),X,_,_,v,rfl,rfl,aX.of e9,a8,M,Z,c,.str t.nm,v,rfl,hZ.same aa,.inr ⟨j,t,rfl,hj,?_⟩,λHa sa=>⟨true,rfl,bV ⟨((((s6.trans s7).trans s8).trans s9).trans sa),_,_,_,_,_,_,_,_,rfl⟩⟩⟩⟩;simp only[pw,oi,vr]at R;rcases R with rfl|rfl|rfl|rfl|rfl
    ·exact .inl (yM (by decide) (by decide+kernel))
    ·refine .inr (U rfl ⟨zV (by decide+kernel),λz=>?_⟩);rw[(hA.pn.tn j t hj).2]at z;obtain⟨m,_,e⟩:=nk.mp z;exact FS _ _ e
    ·exact .inl (.inl ⟨"NoneType",.non,de (by decide+kernel)⟩)
    ·exact .inl (.inl ⟨"list",.lst (s9 _ _ e8),de (by decide+kernel)⟩)
    ·exact .inl (.inl ⟨"int",.int _,de (by decide+kernel)⟩)
   ·rintro I H6⟨s6,v5,v6,v7,v8,L,u,B,C,rfl⟩;have b6:=bu (bY ns 6 62) (show(0:Int)<6 by decide);refine U rfl ⟨ls rfl,λJ a6=>?_⟩;have s7:=aj (o:=.tup [.str "soap"]) (am.refl H6) a6;have e7:aA H6 J (.tup [.str "soap"]) J=some (.tup [.str "soap"]):=ae;generalize aA H6 J (.tup [.str "soap"])=H7 at s7 e7⊢;refine⟨ls rfl,λX a7=>?_⟩;have s8:=aj (o:=.lst [.str "soap"]) (am.refl H7) a7;have e8:aA H7 X (.lst [.str "soap"]) X=some (.lst [.str "soap"]):=ae;generalize aA H7 X (.lst [.str "soap"])=H8 at s8 e8⊢;refine⟨ls rfl,λl2 c0=>?_⟩;have s9:=aj (o:=.lst [.str "",.str "Soap",.non,.ref J,.ref X,.int 7]) (am.refl H8) c0;have e9:aA H8 l2 (.lst [.str "",.str "Soap",.non,.ref J,.ref X,.int 7]) l2=some (.lst [.str "",.str "Soap",.non,.ref J,.ref X,.int 7]):=ae;generalize aA H8 l2 (.lst [.str "",.str "Soap",.non,.ref J,.ref X,.int 7])=H9 at s9 e9⊢;have aa:=(((a3.trans s6).trans s7).trans s8).trans s9;obtain⟨v,R,a8⟩:=DT (xs:=[.str "",.str "Soap",.non,.ref J,.ref X,.int 7]) b6.1 b6.2;refine U rfl ⟨sc,ns,6,62,rfl,aa.seq hA.sq,hA.len,⟨by decide,by decide⟩,⟨by decide,by decide⟩,_,U rfl ⟨rfl,(show(0:Int)<6 by decide),l2,_,_,v,rfl,rfl,aX.of e9,a8,M,Z,c,v,.str "old",rfl,hZ.same aa,.inl ?_,λHa sa=>q Ha (aa.trans sa)⟩⟩;simp only[pw,oi,vr]at R;rcases R with rfl|rfl|rfl|rfl|rfl|rfl
    ·exact yM (by decide) (by decide+kernel)
    ·exact yM (by decide) (by decide+kernel)
    ·exact .inl ⟨"NoneType",.non,de (by decide+kernel)⟩
    ·exact .inl ⟨"tuple",.tup (s9 _ _ (s8 _ _ e7)),de (by decide+kernel)⟩
    ·exact .inl ⟨"list",.lst (s9 _ _ e8),de (by decide+kernel)⟩
    ·exact .inl ⟨"int",.int _,de (by decide+kernel)⟩
end
def Dv{d:Type}{c:List d}{x y:d}{i:Nat}(h:(c++[x])[i]?=some y):c[i]?=some y\/(i=c.length/\y=x):=by
 rcases Rb i c.length with z|z
 ·exact .inl (by rw[<-h];exact(so z).symm)
 ·rw[z7 z]at h;obtain⟨b,e⟩:=d_.mp h;have b:i-c.length<1:=b;obtain rfl:i=c.length:=by omega
  simp only[Nat.sub_self,List.getElem_cons_zero]at e;exact .inr ⟨rfl,e.symm⟩
section
variable{ns:Sh}{M a:cy}{d:Dd}
def Dd.na(h:d.adds=false):A9 M d=iw M/\xo M d=iL M:=by cases d<;>first|exact⟨rfl,rfl⟩|cases h
def nK.keep(h:nK ns M)(c:a.p=M.p)(g:a.salt=M.salt)(e:a.las.map (λl=>(l.nm,l.sl))=M.las.map λl=>(l.nm,l.sl))(f:a.trs.map (λt=>(t.nm,t.arms))=M.trs.map λt=>(t.nm,t.arms)):nK ns a/\a.p=M.p/\a.salt=M.salt/\iw a=iw M/\iL a=iL M:=by
 have a1:∀N:cy,iw N=(N.las.map λl=>(l.nm,l.sl)).map Prod.fst:=λN=>by rw[w1];rfl
 have b:∀N:cy,iL N=(N.trs.map λt=>(t.nm,t.arms)).map λx=>(x.1,x.2.length):=λN=>by rw[w1];rfl
 have k:a.las.length=M.las.length:=by have:=tA List.length e;rw[c_,c_]at this;exact this
 refine⟨⟨λi l m=>?_,λj t n=>?_,by rw[k,c];exact h.lp,by rw[c];exact h.pr⟩,c,g,by rw[a1,a1,e],by rw[b,b,f]⟩
 ·have q:(M.las.map λl=>(l.nm,l.sl))[i]?=some (l.nm,l.sl):=by rw[<-e,j_,m];rfl
  rw[j_]at q;obtain⟨o,h0,q⟩:=Option.map_eq_some_iff.mp q;rw[<-(QB q).1,<-(QB q).2,c];exact h.ln i o h0
 ·have q:(M.trs.map λt=>(t.nm,t.arms))[j]?=some (t.nm,t.arms):=by rw[<-f,j_,n];rfl
  rw[j_]at q;obtain⟨r,h0,q⟩:=Option.map_eq_some_iff.mp q;rw[<-(QB q).1,<-(QB q).2];exact h.tn j r h0
def j0.nx(h:nK ns M)(n:j0 M d a)(f:Nm ns M d):nK ns a/\a.p=M.p/\a.salt=M.salt/\iw a=A9 M d/\iL a=xo M d:=by cases n with
 |@layer nm sl=>
  obtain⟨p1,p2,p3⟩:=f;refine⟨⟨λi l b=>?_,h.tn,?_,h.pr⟩,rfl,rfl,k_,rfl⟩
  ·rcases Dv b with b|⟨rfl,rfl⟩
   ·exact h.ln i l b
   ·exact⟨p1,p2⟩
  ·show(M.las++[_]).length<=M.p+1;rw[kt];exact p3|@trial x=>
  refine⟨⟨h.ln,λj t e=>?_,h.lp,h.pr⟩,rfl,rfl,rfl,k_⟩;rcases Dv e with e|⟨rfl,rfl⟩
  ·exact h.tn j t e
  ·exact f|share b hh hn=>exact h.keep rfl rfl (eg b _ rfl) rfl|deal b hh hn=>exact h.keep rfl rfl (eg b _ rfl) rfl|hold b=>exact h.keep rfl rfl (eg b _ rfl) rfl|pause c=>exact h.keep rfl rfl rfl (eg c _ rfl)|close c b hh=>exact h.keep rfl rfl (eg b _ rfl) (eg c _ rfl)|bar c b hh=>exact h.keep rfl rfl (eg b _ rfl) (eg c _ rfl)|visit v=>
  refine h.keep v.p v.salt (y2 λi=>?_) (by rw[v.trs]);rw[j_,j_]
  by_cases hi:i<M.las.length
  ·obtain⟨g,h1,_⟩:=v.las i _ (h_ hi);rw[h1,h_ hi];rfl
  ·rw[pa (by have:=v.len;lia),pa (by exact Qt hi)]
end
structure BJ(P:Sb)(w:World)(K:R7)(a:iK)(H0 H:Hp)(ns:Sh)(M:cy)(Z:ZS)(A:BR)(c:Nat)(ls:Sc)(ts:List (Str×Nat)):Prop where
 z:cE P w K a H M Z c
 pl:pV K H M.p M.salt ls ts A
 pn:nK ns M
 f1:¬jI M Z A.pl
 f2:¬jI M Z A.L
 f3:¬jI M Z A.T
 bs:∀b o,H0 b=some o->H b=some o/\¬jI M Z b/\b≠A.L/\b≠A.T
section
variable{P:Sb}{w:World}{K:R7}{a:iK}{f H i q:Hp}{M j:cy}{Z v:ZS}{ns:Sh}{A:BR}{x:Addr}{c:Nat}{ls r:Sc}{u t:List (Str×Nat)}{d:Dd}
theorem BJ.same(h:BJ P w K a f H ns M Z A c ls u)(s:am H i):BJ P w K a f i ns M Z A c ls u:={h with z:=h.z.same s,pl:=h.pl.same s,bs:=λb o e=>⟨s _ _ (h.bs b o e).1,(h.bs b o e).2⟩}
def BJ.dr(h:BJ P w K a f H ns M Z A c (iw M) (iL M))(sq:aX K f x (ns.map V.int))(l:ns.length<=63):tU K H x ns M A c:=⟨am.seq (λb o e=>(h.bs b o e).1) sq,l,h.pl,h.z.ok,h.pn,λi g=>am.seq (λb o e=>g _ _ (h.bs b o e).1 (h.bs b o e).2.2.1) sq⟩
def BJ.chg(h:BJ P w K a f H ns M Z A c ls u)(n:Po A H i)(l:pV K i M.p M.salt r t A):BJ P w K a f i ns M Z A c r t:=by
 obtain⟨o,m,kp,k⟩:=n;rcases m with rfl|rfl
 ·exact{h with z:={h.z with g:=h.z.g.out h.f2 kp k},pl:=l,bs:=λb o e=>⟨k _ _ (h.bs b o e).1 (h.bs b o e).2.2.1,(h.bs b o e).2⟩}
 ·exact{h with z:={h.z with g:=h.z.g.out h.f3 kp k},pl:=l,bs:=λb o e=>⟨k _ _ (h.bs b o e).1 (h.bs b o e).2.2.2,(h.bs b o e).2⟩}
def BJ.fin(h:BJ P w K a f H ns M Z A c (A9 M d) (xo M d))(n:j0 M d j)(st:gu H M Z q j v)(p:cE P w K a q j v (c+1))(s:Nm ns M d):BJ P w K a f q ns j v A (c+1) (iw j) (iL j):=by
 have kp:=h.z.g.stp st;obtain⟨p1,p2,p3,p4,p5⟩:=n.nx h.pn s;obtain⟨m,k,l⟩:=h.pl.T;refine⟨p,?_,p1,st.nf h.pl.pl h.f1,st.nf h.pl.L h.f2,st.nf k h.f3,λb o e=>?_⟩
 ·rw[p2,p3,p4,p5];exact⟨st.fr _ _ h.pl.pl h.f1,st.fr _ _ h.pl.L h.f2,⟨m,st.fr _ _ k h.f3,FK.kp kp l⟩,h.pl.n1,h.pl.n2,h.pl.n3⟩
 ·obtain⟨b1,b2,b3⟩:=h.bs b o e;exact⟨st.fr _ _ b1 b2,st.nf b1 b2,b3⟩
def BJ.not(h:BJ P w K a f H ns M Z A c (A9 M d) (xo M d))(hd:d.adds=false)(s:am H q):BJ P w K a f q ns M Z A (c+1) (iw M) (iL M):=by obtain⟨b,e⟩:=Dd.na (M:=M) hd;rw[b,e]at h;exact{h.same s with z:=(h.same s).z.mono (r3 c)}
end
def CZ(p:Nat)(sa:Int):cy:=⟨p,sa,[],[],[]⟩
def Bk(h ln tn c dl dx:Addr):ZS:=⟨λr=>match r with|.hh=>h|.ln=>ln|.tn=>tn|.ci=>c|_=>dl,λ_=>dx,[],[],λ_=>[],λ_=>[],λ_=>[],λ_=>dx,λ_=>.non,λ_=>dx⟩
section
variable{P:Sb}{w:World}{K:R7}{a:iK}{f d H:Hp}{p:Nat}{sa:Int}{h ln tn c dl dx:Addr}
def KO(e:2<=p/\p<=997):nM (CZ p sa) 0:=⟨e,.nil,.nil,λl g=>(nomatch g),λt b=>(nomatch b),λx i=>(nomatch i),n0 _,n0 _,n0 _,λt b=>(nomatch b)⟩
def HP(hh:H h=some (.ins a.bj dx [("own_prime",.int p),("own_salt",.int sa),("layer_named",.ref ln),("trial_named",.ref tn),("came_into",.ref c),("deeds",.ref dl)]))(n:H ln=some (.dK []))(s:H tn=some (.dK []))(u:H c=some (.dK []))(v:H dl=some (.lst []))(n1:ln≠tn)(n2:ln≠c)(n3:tn≠c):bA P w K a H (CZ p sa) (Bk h ln tn c dl dx):=by
 have at_:∀r o,cont P w a (CZ p sa) (Bk h ln tn c dl dx) r=some o->H ((Bk h ln tn c dl dx).G r)=some o:=λr o e=>by cases r<;>first|(obtain rfl:=m_ e;assumption)|cases e
 refine⟨λr j o k e b q=>?_,at_,λi l g=>(nomatch g),λi t m=>(nomatch m),λi l g=>(nomatch g),.nil⟩;have x:=at_ r o e
 have y:=at_ j k b
 rw[q,y]at x;cases r<;>cases j<;>first|rfl|(cases e;done)|(cases b;done)|exact absurd q n1|exact absurd q n2|exact absurd q n3|exact absurd q.symm n1|exact absurd q.symm n2|exact absurd q.symm n3|(cases e;cases b;cases x;done)
def Ic(g:jI (CZ p sa) (Bk h ln tn c dl dx) b):b=h\/b=ln\/b=tn\/b=c\/b=dl:=by
 rcases g with⟨r,j,e⟩|⟨i,hi,_⟩|⟨x,k,_⟩
 ·cases r
  ·exact .inl e
  ·exact .inr (.inl e)
  ·exact .inr (.inr (.inl e))
  ·exact .inr (.inr (.inr (.inl e)))
  ·exact .inr (.inr (.inr (.inr e)))
  all_goals cases j
 ·cases hi
 ·cases k
end
def OY(J:St->Hp->Prop)(h1:∀c H,J c H->u D c H)(h2:∀(N:St->Hp->Prop)(R:VK)(B C:St->Hp->Prop),(∀c H,J c H->N c H)->t ⟨N,R,B,C⟩ c H):FY t u D c H:=h2 (u D) D.rt D.bk D.ct h1
def PX{t:TS}{N:St->Hp->Prop}{R:VK}{B C:St->Hp->Prop}{c:St}(h:∀(R:VK)(B C:St->Hp->Prop),t ⟨N,R,B,C⟩ c H):t ⟨N,R,B,C⟩ c H:=h R B C
def zL.pr(h:zL p)(i:Nat)(hi:2+(i:Int)<(p:Int)):(p:Int)%(2+(i:Int))≠0:=λz=>by have h1:=(by decide:∀p∈[2,3,5,7,11,13],∀i,i<13->2+i<p->p%(2+i)≠0) p h i (by have:=h.le;omega) (by omega);have e:(((p%(2+i):Nat)):Int)=(p:Int)%((2+i:Nat):Int):=Int.natCast_emod _ _;rw[show(((2+i:Nat)):Int)=2+(i:Int)by lia,z]at e;lia
inductive JL(P:Sb)(w:World)(K:R7)(a:iK)(H0:Hp)(ns:Sh)(A:BR)(sc h:Addr)(m:Int)(i:Nat)(σ:St)(H':Hp):Prop|mk(M:cy)(Z:ZS)(v4 v5:Option V)(L:BJ P w K a H0 H' ns M Z A i (iw M) (iL M))(e:Z.G .hh=h)(t:i=0->M.trs.length=0)(s:σ=[some (.ref sc),some (.ref A.pl),some (.ref h),some (.int m),v4,v5]):JL P w K a H0 ns A sc h m i σ H'
inductive JT(P:Sb)(w:World)(K:R7)(a:iK)(H0:Hp)(ns:Sh)(A:BR)(sc h:Addr)(m:Int)(i:Nat)(σ:St)(H':Hp):Prop|mk(M:cy)(Z:ZS)(b:Bool)(L:BJ P w K a H0 H' ns M Z A (i+1) (iw M) (iL M))(e:Z.G .hh=h)(t:i=0->b=false)(s:σ=[some (.ref sc),some (.ref A.pl),some (.ref h),some (.int m),some (.int (i:Nat)),some (.bl b)]):JT P w K a H0 ns A sc h m i σ H'
section
def MG(T:Txt K mg a)(hw:w.params=a.pm):aO P w K mg base dk 16 a.law.x a.law.d ["_law_script"] (Ge K):=by
 refine T.law.ok n8 λb9 A outer s H vs Q E hr h=>?_
 ·obtain⟨I,ns,rfl,hS,hl,q⟩:=h;refine⟨_,(ag (bg 1 n8.nd (pc T.x9 (G0 T) hr (ac (Y 0) O))) (ag (bg 2 n8.nd (tY T.Hk ((tH (P:=P) (w:=w) T).mono (by decide)) hr rfl T.Kx T.d7.b .nil bh (ac (iX K (Y 1) af) (ac (iX K (Y 1) af) O)))) (ag (bg 3 n8.nd (av bG af (ay (rL rfl) (by rfl) T.Hb L2.vF (ac (ay (aH K rfl) (by rfl) T.bE L2.aI (ac (Y 0) O)) (ac af O))))) (ag (dy o_ rfl (cP rfl T.dP (ac (Y 3) O)) (qK 4 n8.nd) (ag (bg 5 n8.nd eD) (ag (J4 rfl rfl T.xN rfl T.AY T.xO rfl T.AZ (λE b8 σ Xe hx=>(DN (Kq (Y 2) T.az T.jw.m ((AM (P:=P) (w:=w) T hw).mono (by decide)) hr T.jw.b .nil hx (ac (pc T.yb (G1 T) hr (ac (Y 0) (ac (Y 1) (ac (Y 4) O)))) O)))) (λea=>(ah (bg 5 n8.nd eD)))) (ag (aJ (PW.pt (oA (aM K rfl (Y 5) (λ_=>rfl)) (lH (aE aS (Y 4) af (aF _))))) (ah (ax eD)) aC) (ah (aJ (PW.pt (eC (aE aS (av aQ (Y 4) af) af (aF _)) (db (aE aS (Y 4) (av fq (Y 3) af) (aF _))))) (ah (aJ (bT (aM K rfl (pc T.rW (EJ T) hr (ac (Y 0) (ac (Y 2) (ac (Y 1) O)))) (λ_=>rfl))) (ah (ax eD)) aC)) aC)))))) (ah (ax eD)))))),?_⟩
  refine U rfl ⟨I,ns,rfl,hS,hl,λA p sa H1 s1 cc a6 a7 hP pr a8=>aq ?_⟩;have hp:=pr.le;refine U rfl (rX (aX.of hP.pl) (ao (k:=0) rfl) (U rfl (rX (aX.of hP.pl) (ao (k:=1) rfl) (λh dx hh ba cF=>?_))));have f2:am H1 (aA (aA H1 dx (.own h)) h (.ins a.bj dx [])):=λb o e=>by rw[ak (aD e hh),ak (aD e ba)];exact e
  have J:aA (aA H1 dx (.own h)) h (.ins a.bj dx []) h=some (.ins a.bj dx []):=ae;generalize aA (aA H1 dx (.own h)) h (.ins a.bj dx [])=H2 at f2 J⊢;refine⟨h,dx,(p:Int),sa,rfl,J,⟨by lia,by lia⟩,pr.pr,a8,λln tn ci dl H3 aa ad al an bb bc bi f3 ap u v y D=>⟨rfl,aq ?_⟩⟩;have s3:am H1 H3:=λb o e=>f3 b o (f2 b o e) (aD e hh);have as:bA P w K a H3 (CZ p sa) (Bk h ln tn ci dl dx):=HP ap u v y D bb bc bi;obtain⟨ut,bt,_⟩:=hP.T;have f:∀b o,H1 b=some o->¬jI (CZ p sa) (Bk h ln tn ci dl dx) b:=λb o e z=>by
   rcases Ic z with rfl|rfl|rfl|rfl|rfl
   ·exact kQ e hh
   ·exact kQ e (f2.free aa)
   ·exact kQ e (f2.free ad)
   ·exact kQ e (f2.free al)
   ·exact kQ e (f2.free an)
  have N:BJ P w K a H H3 ns (CZ p sa) (Bk h ln tn ci dl dx) A 0 [] []:=⟨⟨as,KO ⟨by omega,by omega⟩,λi=>n0 _,λi=>n0 _,n0 _⟩,hP.same s3,⟨λi l hl=>(nomatch hl),λj t ht=>(nomatch ht),n0 _,pr⟩,f _ _ hP.pl,f _ _ hP.L,f _ _ bt,λb o e=>⟨s3 _ _ (s1 _ _ e),f _ _ (s1 _ _ e),aD e a6,aD e a7⟩⟩;generalize a0:Bk h ln tn ci dl dx=Z0 at N;have a2:Z0.G .hh=h:=by rw[<-a0];rfl
  clear a0 as ap u v y D aa ad al an f3 f2 J f;obtain⟨x,ex,x0,c0⟩:∃x:Int,(if(44:Int)<(ns.length:Int)then 44 else(ns.length:Int))=x/\0<=x/\x<=44:=⟨_,rfl,by split<;>omega,by split<;>omega⟩;refine U rfl ⟨_,ns.length,rfl,.inl ⟨_,(s1.trans s3).seq hS,by simp⟩,(ns.length:Int),44,rfl,6,x,rfl,by rw[ex],?_⟩;obtain⟨S,bv⟩:∃S,6+x=S:=⟨_,rfl⟩;show kX 3 (.int (6+x)) _ _ _;rw[bv];refine aq (Cm (U rfl ⟨S,rfl,by omega,by omega,?_⟩));refine gH (lo:=0) (n:=S.toNat) (JL P w K a H ns A I h S) ⟨_,Z0,_,_,N,a2,λ_=>rfl,rfl⟩ ?_ (λσ H' _=>q H');clear N a2;rintro i σ H4 hi⟨M,Z,v4,v5,hL,rfl,a3,rfl⟩;rw[show(0:Int)+(i:Int)=((i:Nat):Int)by lia];refine aq (PX λR B C=>?_);refine aq (Cm ?_);refine OY (JT P w K a H ns A I (Z.G .hh) S i) ?A1 (λNn _ _ _ hJ=>?B1)
  case B1=>
   refine nh hL.z.g.house rfl rfl (U rfl (U rfl (U rfl ⟨I,ns,M,A,i,(i:Int),rfl,hL.dr hS hl,⟨by omega,by omega⟩,λdv d xs H5 ch hT hD bz bN a5=>?_⟩)));have hB:=hL.chg ch bz;refine⟨M,Z,i,dv,d,xs,rfl,hB.z,by omega,hT,hD,λc1 r us W F H6 nx st b0 hr c2=>?_,λX H6 s6=>⟨.inl rfl,?_⟩,λX H6 s6=>⟨.inr rfl,?_⟩⟩
   ·exact hJ _ _ ⟨W,F,false,hB.fin nx st b0 bN,st.hh,λ_=>rfl,rfl⟩
   ·exact aq (hJ _ _ ⟨M,Z,true,hB.not X s6,rfl,λz=>(by rw[a5 (a3 z)]at X;cases X),rfl⟩)
   ·exact aq (hJ _ _ ⟨M,Z,true,hB.not X s6,rfl,λz=>(by rw[a5 (a3 z)]at X;cases X),rfl⟩)
  case A1=>
  rintro σ H5⟨W,F,b,c,e',hb,rfl⟩;rw[<-e'];refine OY (λσ H'=>H'=H5/\σ=[some (.ref I),some (.ref A.pl),some (.ref (F.G .hh)),some (.int S),some (.int (i:Nat)),some (.bl b)]) ?A2 (λNn _ _ _ hJ=>?B2)
  case B2=>cases b with|false=>exact⟨_,rfl,false,rfl,bV (hJ _ _ ⟨rfl,rfl⟩)⟩|true=>refine U rfl ⟨true,rfl,bD (U rfl ⟨rfl,U rfl (ko (λz=>?_) (λ_=>hJ _ _ ⟨rfl,rfl⟩))⟩)⟩;cases hb (by have:=V.int.inj z;omega)
  case A2=>
  rintro σ H6⟨rfl,rfl⟩;refine U rfl (r2 ⟨(show(0:Int)<16 by decide),rfl,U rfl (ko (λ_=>?_) (λ_=>?_))⟩)
  ·exact bD (U rfl (U rfl (U rfl ⟨I,ns,W,F,A,i+1,rfl,c.dr hS hl,c.z,λH7 s7=>⟨true,rfl,bV ⟨W,F,_,_,c.same s7,rfl,λz=>(nomatch z),rfl⟩⟩⟩)))
  ·exact U rfl (U rfl (r2 ⟨rfl,U rfl (ko (λ_=>(U rfl (U rfl (U rfl ⟨I,ns,W,F,A,i+1,rfl,c.dr hS hl,c.z,λH7 s7=>⟨true,rfl,bV ⟨W,F,_,_,c.same s7,rfl,λz=>(nomatch z),rfl⟩⟩⟩)))) (λ_=>⟨W,F,_,_,c,rfl,λz=>(nomatch z),rfl⟩))⟩))
end
def Nh{K:R7}{h:Heap}{mg:R_}{eV lc fY y k9 qu ua t7 yk qo ub t8 qp nY qt uc t9:Addr}{cF:Addr}{pm:Params}{oN:Array DictEntry}{u6:Nat}{BU:Addr}{KY:Option Addr}{zg:Se}{DD:Nat}{J0:Array (Option Value)}(X:K.In h)(G:h.Ns mainGlobals mg)(K9:Gp K "Table" eV)(La:Gp K "Layer" lc)(K7:Gp K "Trial" fY)(Lb:Gp K "House" y)(zK:Gp K "SplitError" k9)(FH:Gp K "NoHouse" qu)(IS:Gp K "NoDeed" ua)(IP:Gp K "NoWord" t7)(K8:Gp K "Taken" yk)(FE:Gp K "Unknown" qo)(IT:Gp K "NoArms" ub)(IQ:Gp K "NoRule" t8)(FF:Gp K "NoShuts" qp)(Dq:Gp K "NoNumber" nY)(FG:Gp K "NoMarks" qt)(IU:Gp K "Closed" uc)(IR:Gp K "NoRoom" t9)(mT:Cp K eV)(zt:aT K eV "many")(vp:aT K eV "owners")(w5:aT K eV "taken")(mU:Cp K lc)(w9:aT K lc "slope")(w6:aT K lc "table")(vq:aT K lc "inside")(mS:Cp K fY)(zq:aT K fY "home")(zr:aT K fY "arms")(zp:aT K fY "rule")(w4:aT K fY "shuts")(vm:aT K fY "paused")(vn:aT K fY "closed")(vo:aT K fY "barred")(mV:Cp K y)(pO:aT K y "own_prime")(rC:aT K y "own_salt")(nr:aT K y "layer_named")(nq:aT K y "trial_named")(pP:aT K y "came_into")(xa:aT K y "deeds")(zu:ng K k9)(Fi:ng K qu)(Ij:ng K ua)(Ig:ng K t7)(KW:ng K yk)(Ff:ng K qo)(Ik:ng K ub)(Ih:ng K t8)(Fg:ng K qp)(C8:ng K nY)(Fh:ng K qt)(Il:ng K uc)(Ii:ng K t9)(Ba:Dp K "points_in" md)(CF:Dp K "is_whole" om)(yT:Dp K "is_text_of" iM)(EY:Dp K "is_word" qF)(CI:Dp K "is_guest" oo)(CH:Dp K "is_prime" lr)(CB:Dp K "point_of" og)(Bc:Dp K "is_number" mf)(E3:Dp K "is_mark" qI)(Be:Dp K "are_marks" io)(CK:Dp K "has_form" ou)(y3:Dp K "all_within" lD)(CA:Dp K "words_of" lq)(E2:Dp K "is_rule" qH)(Kz:Dp K "holds" pf)(CJ:Dp K "is_count" oq)(EZ:Dp K "is_salt" qG)(CG:Dp K "is_total" on)(Bb:Dp K "is_weight" me)(y0:Dp K "are_counts" iN)(wU:Dp K "are_weights" ic)(CL:Dp K "are_arms" lC)(wR:Dp K "check_house" kd)(yU:Dp K "check_word" lu)(wS:Dp K "check_guest" ke)(wP:Dp K "check_marks" ka)(yV:Dp K "check_rule" lw)(Bd:Dp K "check_new" mh)(qS:Dp K "check_standing" gw)(wQ:Dp K "check_known" kc)(wO:Dp K "check_place" j9)(wM:Dp K "check_slope" ib)(yZ:Dp K "check_arms" lB)(wN:Dp K "check_shuts" j8)(wT:Dp K "check_count" kf)(u8:Dp K "check_shares" jb)(tJ:Dp K "check_dealing" iC)(yX:Dp K "check_form" lz)(wL:Dp K "check_trial" j7)(yW:Dp K "check_open" lx)(yY:Dp K "check_deed" lA)(CD:Dp K "most_due" oj)(KA:Dp K "dealt" yz)(CC:Dp K "place_of" oh)(va:Mp K eV "__init__" "Table.__init__" jd)(qT:Mp K eV "owner_of" "Table.owner_of" gx)(pG:Mp K eV "places_of" "Table.places_of" f9)(y7:Mp K eV "free" "Table.free" iP)(y4:Mp K eV "told" "Table.told" iO)(pH:Mp K eV "give_back" "Table.give_back" ga)(y6:Mp K eV "take" "Table.take" lE)(vb:Mp K lc "__init__" "Layer.__init__" je)(u9:Mp K fY "__init__" "Trial.__init__" jc)(vf:Mp K y "__init__" "House.__init__" jh)(CO:Mp K y "do" "House.do" oz)(za:Mp K y "done" "House.done" lG)(q8:Mp K y "do_layer" "House.do_layer" gC)(qX:Mp K y "do_trial" "House.do_trial" gA)(qY:Mp K y "do_share" "House.do_share" dw)(tL:Mp K y "do_hold" "House.do_hold" iE)(qZ:Mp K y "do_pause" "House.do_pause" gB)(q9:Mp K y "do_close" "House.do_close" gD)(ve:Mp K y "do_bar" "House.do_bar" jg)(qW:Mp K y "do_visit" "House.do_visit" gz)(tK:Mp K y "put_out" "House.put_out" iD)(ni:Mp K y "after_visit" "House.after_visit" dn)(qU:Mp K y "seat_for" "House.seat_for" eX)(qV:Mp K y "place_in" "House.place_in" gy)(wW:Mp K y "owner" "House.owner" kh)(pI:Mp K y "places_in" "House.places_in" gb)(vc:Mp K y "places" "House.places" jf)(vd:Mp K y "layers" "House.layers" gc)(wV:Mp K y "prime" "House.prime" kg)(CN:Dp K "_law_cell_at" oy)(HC:Dp K "_law_mixed" uN)(KB:Dp K "_law_word" yA)(HE:Dp K "_law_guest" uO)(KC:Dp K "_law_rule" yB)(HD:Dp K "_law_marks" ph)(KD:Dp K "_law_plan" yC)(y9:Dp K "_law_new_layer" lF)(y8:Dp K "_law_new_trial" iQ)(Hz:Dp K "_law_share" mi)(KF:Dp K "_law_deed" yD)(HB:Dp K "_law_place" uM)(E4:Dp K "_law_owners" mR)(KG:Dp K "_law_arms" tX)(CM:Dp K "_law_refused" ox)(HA:Dp K "_law_right" uL)(OJ:Dp K "law" GE)(Fc:Pj K "LETTERS" "abcdefghijklmnopqrstuvwxyz")(wZ:Pj K "GUEST_SIGNS" "abcdefghijklmnopqrstuvwxyz0123456789")(vj:Ip K "LONGEST_WORD" 12)(tQ:Ip K "LONGEST_GUEST" 24)(wY:Ip K "LEAST_PRIME" 2)(rB:Ip K "GREATEST_PRIME" 997)(KQ:Ip K "MIXER" 1009)(zo:Ip K "MOST_MARKS" 8)(vk:Ip K "DEEPEST_RULE" 6)(zn:Ip K "MOST_RULES" 30)(zj:Ip K "MOST_WORDS" 3)(Bm:Ip K "MOST_ARMS" 4)(zm:Ip K "MOST_SHUTS" 8)(zk:Ip K "MOST_TOTAL" 1000)(FI:Gp K "LENGTHS" cF)(E5:K.lookup cF=some ⟨.type "dict",none,.dict oN u6,#[]⟩)(CQ:PySem.W.KeysLit pm oN.toList)(CP:(cF==sysModules)=false)(sU:∃tk,PySem.W.nsIn K cF "layer"=some (some (.int 3 tk)))(sP:∃tk,PySem.W.nsIn K cF "trial"=some (some (.int 6 tk)))(sQ:∃tk,PySem.W.nsIn K cF "share"=some (some (.int 3 tk)))(uh:∃tk,PySem.W.nsIn K cF "deal"=some (some (.int 4 tk)))(ug:∃tk,PySem.W.nsIn K cF "hold"=some (some (.int 3 tk)))(sR:∃tk,PySem.W.nsIn K cF "pause"=some (some (.int 2 tk)))(yn:∃tk,PySem.W.nsIn K cF "go"=some (some (.int 2 tk)))(sV:∃tk,PySem.W.nsIn K cF "close"=some (some (.int 2 tk)))(wg:∃tk,PySem.W.nsIn K cF "bar"=some (some (.int 3 tk)))(sO:∃tk,PySem.W.nsIn K cF "visit"=some (some (.int 3 tk)))(Ni:Gp K "HELD" BU)(LM:K.lookup BU=some ⟨.type "tuple",KY,.seq zg DD,J0⟩)(FP:a9 [.str "",.str ""] zg.toList)(NV:Zp K "all")(NU:Zp K "any")(LL:Zp K "bool")(FO:Zp K "divmod")(zU:Zp K "enumerate")(NT:Zp K "int")(yj:Zp K "isinstance")(NS:Zp K "len")(LK:Zp K "list")(NR:Zp K "max")(NQ:Zp K "min")(Jg:Zp K "range")(BT:Zp K "reversed")(NP:Zp K "set")(FN:Zp K "sorted")(NO:Zp K "str")(NN:Zp K "sum")(Jf:Zp K "tuple")(NM:Zp K "zip"):∃a:iK,Txt K mg a/\pm=a.pm:=by obtain⟨fR,f0,sI⟩:=Ba;obtain⟨g0,g1,vT⟩:=CF;obtain⟨el,en,pY⟩:=yT;obtain⟨hB,hC,yd⟩:=EY;obtain⟨g2,g3,vW⟩:=CI;obtain⟨g4,g5,vV⟩:=CH;obtain⟨g6,g7,vQ⟩:=CB;obtain⟨f4,f5,sK⟩:=Bc;obtain⟨hD,hF,yg⟩:=E3;obtain⟨f6,f7,sM⟩:=Be;obtain⟨g8,ha,vY⟩:=CK;obtain⟨eo,ep,qi⟩:=y3;obtain⟨x_words_of,hb,vP⟩:=CA;obtain⟨hG,hH,yf⟩:=E2;obtain⟨hZ,ig,DY⟩:=Kz;obtain⟨he,hf,vX⟩:=CJ;obtain⟨hI,hJ,ye⟩:=EZ;obtain⟨hj,hk,vU⟩:=CG;obtain⟨ge,gg,sJ⟩:=Bb;obtain⟨eq,er,qh⟩:=y0;obtain⟨c2,c3,nX⟩:=wU;obtain⟨hl,ho,vZ⟩:=CL;obtain⟨c4,da,nU⟩:=wR;obtain⟨es,ev,pZ⟩:=yU;obtain⟨x_check_guest,dc,nV⟩:=wS;obtain⟨di,dt,nR⟩:=wP;obtain⟨ew,ey,qa⟩:=yV;obtain⟨gv,gV,sL⟩:=Bd;obtain⟨z,A,k8⟩:=qS;obtain⟨dv,dK,nS⟩:=wQ;obtain⟨dT,dV,nQ⟩:=wO;obtain⟨d1,d2,nO⟩:=wM;obtain⟨ez,eG,qg⟩:=yZ;obtain⟨d3,d4,nP⟩:=wN;obtain⟨d5,ea,nW⟩:=wT;obtain⟨bb,bc,mL⟩:=u8;obtain⟨x_check_dealing,a2,lW⟩:=tJ;obtain⟨eH,eN,qd⟩:=yX;obtain⟨eb,ec,nN⟩:=wL;obtain⟨eT,e0,qb⟩:=yW;obtain⟨e1,e2,qf⟩:=yY;obtain⟨hp,hq,vS⟩:=CD;obtain⟨ih,il,DZ⟩:=KA;obtain⟨hr,hs,vR⟩:=CC;obtain⟨bi,b,c,jz⟩:=va;obtain⟨B,C,D,gR⟩:=qT;obtain⟨o,p,q,gq⟩:=pG;obtain⟨e3,e4,e5,lR⟩:=y7;obtain⟨x_Table_told,e6,e7,lP⟩:=y4;obtain⟨r,s,t,gr⟩:=pH;obtain⟨e8,e9,fa,lQ⟩:=y6;obtain⟨bj,d,e,jA⟩:=vb;obtain⟨bl,f,g,jy⟩:=u9;obtain⟨bt,i,j,jE⟩:=vf;obtain⟨ht,hu,hv,oQ⟩:=CO;obtain⟨fg,fl,fo,lS⟩:=za;obtain⟨E,F,I,gZ⟩:=q8;obtain⟨J,L,M,gW⟩:=qX;obtain⟨N,O,Q,gX⟩:=qY;obtain⟨a3,a5,a6,iJ⟩:=tL;obtain⟨x_House_do_pause,R,S,gY⟩:=qZ;obtain⟨T,U,V,g9⟩:=q9;obtain⟨bz,bN,b0,jD⟩:=ve;obtain⟨Y,Z,aa,gU⟩:=qW;obtain⟨a7,a8,ba,iI⟩:=tK;obtain⟨k,l,n,fw⟩:=ni;obtain⟨ad,al,an,gS⟩:=qU;obtain⟨ap,as,a0,gT⟩:=qV;obtain⟨ed,ef,ei,kB⟩:=wW;obtain⟨u,v,x,gt⟩:=pI;obtain⟨b8,b9,cc,jB⟩:=vc;obtain⟨ci,c0,c1,jC⟩:=vd;obtain⟨x_House_prime,ej,ek,kA⟩:=wV;obtain⟨hw,hx,wa⟩:=CN;obtain⟨hM,hN,BN⟩:=HC;obtain⟨ir,iu,D0⟩:=KB;obtain⟨hO,hP,BP⟩:=HE;obtain⟨iA,iT,D1⟩:=KC;obtain⟨hQ,hR,BO⟩:=HD;obtain⟨i1,i2,D3⟩:=KD;obtain⟨fv,fx,qk⟩:=y9;obtain⟨fy,fC,qj⟩:=y8;obtain⟨hS,hT,BK⟩:=Hz;obtain⟨ji,js,D4⟩:=KF;obtain⟨x_Lplace,hW,BM⟩:=HB;obtain⟨hK,hL,yh⟩:=E4;obtain⟨j1,j2,D5⟩:=KG;obtain⟨hy,hA,v0⟩:=CM;obtain⟨hX,hY,BL⟩:=HA;obtain⟨kb,kk,LJ⟩:=OJ;exact⟨⟨fR,g0,el,hB,g2,g4,g6,f4,hD,f6,g8,eo,x_words_of,hG,hZ,he,hI,hj,ge,eq,c2,hl,c4,es,x_check_guest,di,ew,gv,z,dv,dT,d1,ez,d3,d5,bb,x_check_dealing,eH,eb,eT,e1,hp,ih,hr,bi,B,o,e3,x_Table_told,r,e8,bj,bl,bt,ht,fg,E,J,N,a3,x_House_do_pause,T,bz,Y,a7,k,ad,ap,ed,u,b8,ci,x_House_prime,hw,hM,ir,hO,iA,hQ,i1,fv,fy,hS,ji,x_Lplace,hK,j1,hy,hX,kb,eV,lc,fY,y,k9,qu,ua,t7,yk,qo,ub,t8,qp,nY,qt,uc,t9,cF,BU,pm⟩,⟨⟨sI,PySem.W.mg_of X G f0,b3 sI⟩,⟨vT,PySem.W.mg_of X G g1,b1 vT⟩,⟨pY,PySem.W.mg_of X G en,b3 pY⟩,⟨yd,PySem.W.mg_of X G hC,b1 yd⟩,⟨vW,PySem.W.mg_of X G g3,b1 vW⟩,⟨vV,PySem.W.mg_of X G g5,b1 vV⟩,⟨vQ,PySem.W.mg_of X G g7,b3 vQ⟩,⟨sK,PySem.W.mg_of X G f5,b1 sK⟩,⟨yg,PySem.W.mg_of X G hF,b1 yg⟩,⟨sM,PySem.W.mg_of X G f7,b1 sM⟩,⟨vY,PySem.W.mg_of X G ha,b2 vY⟩,⟨qi,PySem.W.mg_of X G ep,b1 qi⟩,⟨vP,PySem.W.mg_of X G hb,b1 vP⟩,⟨yf,PySem.W.mg_of X G hH,b1 yf⟩,⟨DY,PySem.W.mg_of X G ig,b2 DY⟩,⟨vX,PySem.W.mg_of X G hf,b1 vX⟩,⟨ye,PySem.W.mg_of X G hJ,b1 ye⟩,⟨vU,PySem.W.mg_of X G hk,b1 vU⟩,⟨sJ,PySem.W.mg_of X G gg,b1 sJ⟩,⟨qh,PySem.W.mg_of X G er,b2 qh⟩,⟨nX,PySem.W.mg_of X G c3,b2 nX⟩,⟨vZ,PySem.W.mg_of X G ho,b1 vZ⟩,⟨nU,PySem.W.mg_of X G da,b2 nU⟩,⟨pZ,PySem.W.mg_of X G ev,b1 pZ⟩,⟨nV,PySem.W.mg_of X G dc,b1 nV⟩,⟨nR,PySem.W.mg_of X G dt,b1 nR⟩,⟨qa,PySem.W.mg_of X G ey,b1 qa⟩,⟨sL,PySem.W.mg_of X G gV,b2 sL⟩,⟨k8,PySem.W.mg_of X G A,b2 k8⟩,⟨nS,PySem.W.mg_of X G dK,b2 nS⟩,⟨nQ,PySem.W.mg_of X G dV,b2 nQ⟩,⟨nO,PySem.W.mg_of X G d2,b3 nO⟩,⟨qg,PySem.W.mg_of X G eG,b1 qg⟩,⟨nP,PySem.W.mg_of X G d4,b2 nP⟩,⟨nW,PySem.W.mg_of X G ea,b1 nW⟩,⟨mL,PySem.W.mg_of X G bc,b2 mL⟩,⟨lW,PySem.W.mg_of X G a2,b3 lW⟩,⟨qd,PySem.W.mg_of X G eN,b1 qd⟩,⟨nN,PySem.W.mg_of X G ec,b3 nN⟩,⟨qb,PySem.W.mg_of X G e0,b2 qb⟩,⟨qf,PySem.W.mg_of X G e2,b4 qf⟩,⟨vS,PySem.W.mg_of X G hq,b2 vS⟩,⟨DZ,PySem.W.mg_of X G il,b2 DZ⟩,⟨vR,PySem.W.mg_of X G hs,b3 vR⟩,⟨jz,⟨b,c,jz.kp⟩,b2 jz⟩,⟨gR,⟨C,D,gR.kp⟩,b2 gR⟩,⟨gq,⟨p,q,gq.kp⟩,b2 gq⟩,⟨lR,⟨e4,e5,lR.kp⟩,b1 lR⟩,⟨lP,⟨e6,e7,lP.kp⟩,b2 lP⟩,⟨gr,⟨s,t,gr.kp⟩,b3 gr⟩,⟨lQ,⟨e9,fa,lQ.kp⟩,b3 lQ⟩,⟨jA,⟨d,e,jA.kp⟩,b3 jA⟩,⟨jy,⟨f,g,jy.kp⟩,b5 jy⟩,⟨jE,⟨i,j,jE.kp⟩,b3 jE⟩,⟨oQ,⟨hu,hv,oQ.kp⟩,b2 oQ⟩,⟨lS,⟨fl,fo,lS.kp⟩,b2 lS⟩,⟨gZ,⟨F,I,gZ.kp⟩,b3 gZ⟩,⟨gW,⟨L,M,gW.kp⟩,b3 gW⟩,⟨gX,⟨O,Q,gX.kp⟩,b3 gX⟩,⟨iJ,⟨a5,a6,iJ.kp⟩,b3 iJ⟩,⟨gY,⟨R,S,gY.kp⟩,b3 gY⟩,⟨g9,⟨U,V,g9.kp⟩,b2 g9⟩,⟨jD,⟨bN,b0,jD.kp⟩,b3 jD⟩,⟨gU,⟨Z,aa,gU.kp⟩,b3 gU⟩,⟨iI,⟨a8,ba,iI.kp⟩,b3 iI⟩,⟨fw,⟨l,n,fw.kp⟩,b3 fw⟩,⟨gS,⟨al,an,gS.kp⟩,b5 gS⟩,⟨gT,⟨as,a0,gT.kp⟩,b3 gT⟩,⟨kB,⟨ef,ei,kB.kp⟩,b3 kB⟩,⟨gt,⟨v,x,gt.kp⟩,b3 gt⟩,⟨jB,⟨b9,cc,jB.kp⟩,b3 jB⟩,⟨jC,⟨c0,c1,jC.kp⟩,b1 jC⟩,⟨kA,⟨ej,ek,kA.kp⟩,b1 kA⟩,⟨wa,PySem.W.mg_of X G hx,b2 wa⟩,⟨BN,PySem.W.mg_of X G hN,b3 BN⟩,⟨D0,PySem.W.mg_of X G iu,b2 D0⟩,⟨BP,PySem.W.mg_of X G hP,b2 BP⟩,⟨D1,PySem.W.mg_of X G iT,b2 D1⟩,⟨BO,PySem.W.mg_of X G hR,b1 BO⟩,⟨D3,PySem.W.mg_of X G i2,b1 D3⟩,⟨qk,PySem.W.mg_of X G fx,b2 qk⟩,⟨qj,PySem.W.mg_of X G fC,b3 qj⟩,⟨BK,PySem.W.mg_of X G hT,b4 BK⟩,⟨D4,PySem.W.mg_of X G js,b3 D4⟩,⟨BM,PySem.W.mg_of X G hW,b4 BM⟩,⟨yh,PySem.W.mg_of X G hL,b2 yh⟩,⟨D5,PySem.W.mg_of X G j2,b2 D5⟩,⟨v0,PySem.W.mg_of X G hA,b3 v0⟩,⟨BL,PySem.W.mg_of X G hY,b3 BL⟩,⟨LJ,PySem.W.mg_of X G kk,b1 LJ⟩,Fc.m X G,wZ.m X G,vj.m X G,tQ.m X G,wY.m X G,rB.m X G,KQ.m X G,zo.m X G,vk.m X G,zn.m X G,zj.m X G,Bm.m X G,zm.m X G,zk.m X G,K9.m X G,⟨mT.p0,mT.p1,mT.p2,mT.p3⟩,⟨mT.p4,b,c,mT.p5⟩,zt,vp,w5,La.m X G,⟨mU.p0,mU.p1,mU.p2,mU.p3⟩,⟨mU.p4,d,e,mU.p5⟩,w9,w6,vq,K7.m X G,⟨mS.p0,mS.p1,mS.p2,mS.p3⟩,⟨mS.p4,f,g,mS.p5⟩,zq,zr,zp,w4,vm,vn,vo,Lb.m X G,⟨mV.p0,mV.p1,mV.p2,mV.p3⟩,⟨mV.p4,i,j,mV.p5⟩,pO,rC,nr,nq,pP,xa,zK.m X G,zu,FH.m X G,Fi,IS.m X G,Ij,IP.m X G,Ig,K8.m X G,KW,FE.m X G,Ff,IT.m X G,Ik,IQ.m X G,Ih,FF.m X G,Fg,Dq.m X G,C8,FG.m X G,Fh,IU.m X G,Il,IR.m X G,Ii,FI.m X G,⟨CP,oN,u6,E5,CQ⟩,sU,sP,sQ,uh,ug,sR,yn,sV,wg,sO,Ni.m X G,⟨_,zg,DD,LM,rfl,rfl,by rw[<-n_,<-FP.length,lm];simp,FP⟩,NV.m X G,NU.m X G,LL.m X G,FO.m X G,zU.m X G,NT.m X G,yj.m X G,NS.m X G,LK.m X G,NR.m X G,NQ.m X G,Jg.m X G,BT.m X G,NP.m X G,FN.m X G,NO.m X G,NN.m X G,Jf.m X G,NM.m X G⟩,rfl⟩
end My
structure PySem.W.Fast:Prop where(tw8920169079797338868 tw216229400924854684 tw13617172013808860722 tw14338392632054620060 tw13072648970380117334 tw8040692668228167426 tw7414145630989424185 tw17075456659600618721 tw4666791112893179993 tw16334767645442574440 tw16472431628772453629 tw7834839340411772487 tw4710001926335979649 tw7641053399829935164 tw3711620841585129349 tw12133671686662464548 tw15078355240600653952 tw9900010611830674038 tw1219459897146302229 tw13257413312318220640 tw17871542991632482663 tw4208706271379571228 tw18277666206090771188 tw9270381479542783254 tw16183975754721523591 tw2235870239095922711 tw6201687035232702738 tw18413803366003802260 tw5849776871212913410 tw3630247518531656977 tw11323293842544376598 tw17954586501997938120 tw14700154147199281727 tw13469103854937340779 tw6612738459626794289 tw15937404795511881740 tw1158909288821422659 tw13469908711062271102 tw16139805147152041577 tw4783930593595059614 tw2464363812091390680 tw2645925783025567136 tw11329749329850744956 tw8864177966596101102 tw7031854327292151268 tw615235141431904489 tw11114790874393659671 tw1942129164387043298 tw14489119848135744169 tw6222868576061343056 tw7200956175969306931 tw7894527356765662195 tw639986386775437167 tw3597564970416222104 tw3123086175439421189 tw3815177983713172289 tw13518960222276327939 tw15188003673675213648 tw9484313555978803811 tw12007818666091312695 tw15823835531891417019 tw10701371069265364370 tw8208401697545316324 tw5506228535811896199 tw12247649110169604249 tw17177276162080336584 tw7026673965366429537 tw14566049857224319601 tw16905652638733844629 tw637437434807887712 tw642628544874151391 tw13288958800711241187 tw893976642125862008 tw2112298346546446722 tw8750597267720156651 tw955843725208566142 tw3101049151157103676 tw5248464460640941507 tw12090964330481526280 tw10538520797415544891 tw7050117295911217532 tw14112411722167875016 tw18359668811431019429 tw6363563119946776138 tw14742219130550190555 tw4840919007130855439 tw1627765613762264034 tw8439562140539954958 tw5382770513570642845 tw2163396419206324164 tw10284756380156020110 tw15822861119900288416 tw4677373047481792835 tw1715301949959826877 tw777995790172667813 tw7533814108560275987 tw4390121349569305022 tw13053449341302965134 tw13478021198241867938 tw16521379225483876640 tw4616153576121608540 tw2590522631839547567 tw18086159676280323074 tw8925008073610648244 tw10821489231835488653 tw7963941939301618865 tw5580180135955881727 tw15136981606884607271 tw4398632635216162218 tw7476065963205507894 tw9563168222664392902 tw1469464123868605829 tw12571188289718600024 tw4332625161407173001 tw1109085839924467620 tw9983334537820964817 tw8918726663618279489 tw17897204197877057865 tw2306302895322889026 tw3261041448819497764 tw2461095116285239071 tw14970666484186664338 tw5391073697200190079 tw2166525645495010429 tw13226458529941180520 tw14588882816086075470 tw11466085845944042672 tw15082147854554411365 tw15738431639855871605 tw15497174382237662471 tw3838757603202882996 tw10201651641330746791 tw5583944890456076822 tw1787341413032128094 tw6812837818361326242 tw9833952367265581657 tw14858648190924351326 tw1309395272392373667 tw7705982426949396622 tw5021863230812939429 tw18390428766300915566 tw13520564619686828378 tw13715759222567265553 tw534888561869641758 tw476785636626405146 tw10146995234626735130 tw11950356184359096923 tw1252261888334766371 tw16131096599103188813 tw11748500998950223239 tw9888193424172437403 tw5363515915730536221 tw49903417891784157 tw16042523663340711752 tw16513884388869046405 tw2816588190431034017 tw17478063365622025221 tw9037961583242010146 tw661068599704893416 tw12480505425438753122 tw14590017450223889140 tw15747938322657726389 tw7276964099605089755 tw4717357877248815299 tw12685920802075134011 tw2389164273446501959 tw937616296396264835 tw2178382065513469499 tw15001753022346532191 tw16046244160164585445 tw8582440261437943202 tw11533869421466752948 tw2517957517818387304 tw8378356071965863650 tw5164820811247937289 tw5609135647633685724 tw2653503573509992903 tw6858689281589585253 tw13975214764297710967 tw15026601915619237404 tw18085283919706443052 tw16999335759591905153 tw12569162043126471272 tw9877320777291465567 tw541241051625718415 tw5206804966203604408 tw13381738336270029376 tw10640947997121069662 tw16928255292675529132 tw2159319402376177927 tw2247331348238152529 tw6993089830997534744 tw5823711027095211869 tw10127710830537158574 tw824498972071216448 tw11681728979508393157 tw2545837646902162387 tw9763474360437533380 tw13333037203183655096 tw215562435560451815 tw4557437599777282207 tw5145810160490211333 tw4704437920481134987 tw14429044375166049903 tw18116195334825392107 tw15167385706764704247 tw14095541044875919315 tw13274409369391713590 tw14266788270203530819 tw8438173352602305337 tw14473180031979817454 tw5438909002263068585 tw3891115254911650393 tw16255013025542644902 tw18284052329886392104 tw17525079413428939898 tw11160395721660410113 tw8533360601195879759 tw15306306787025475845 tw16964948484431035577 tw5930428481167541783 tw5705175123064919380 tw10928725965890655924 tw17184828595083334865 tw7308026012226629169 tw5401501081605275638 tw17976196981306872142 tw13272512003297867797 tw4040830302112805071 tw7853664435523904118 tw962716004447163320 tw3136687756890565776 tw469920604270129207 tw3876688590692138494 tw3852118633276040625 tw5357583357233294794 tw8988810382681030086 tw2964930325290247090 tw10026076730463017340 tw1848588923855737534 tw7547104885512202089 tw4693493227653423409 tw5711529415038136209 tw5080332401596637756 tw18161718477814691518 tw4792933086403955009 tw12588281922111178367 tw10850194299579310422 tw11471248037751034350 tw4951099757485269880 tw14477941815448348347 tw17842441484442328818 tw5091200214055962240 tw878407461475703802 tw3967340597877175356 tw6784326413613987927 tw1956470808332025171 tw15345294928145172013 tw17066115750978280728 tw5927567035997037731 tw11917490160969598194 tw5113595363051633230 tw7496639975137798148 tw3898770150273630782 tw10136150166047007581 tw6055487819174758942 tw9099454245282801377 tw12055059754987810412 tw6146191247239287824 tw12732318268107007952 tw9633177536923480064 tw8942918888598335889 tw11300331476621949548 tw2840382320117578449 tw79648114962395062 tw16512005440499653746 tw2539576566764431546 tw6220031150679699147 tw18112803804633631664 tw18335146868076791089 tw14873642014373507246 tw10440176895807563062 tw10797091583624583153 tw5654241517791418654 tw7870757044056401463 tw6730215695750694314 tw16208240074547192065 tw15869908878184405242 tw10626458555583820809 tw12809692722032736502 tw2615131666856945641 tw2553462522003493100 tw1984329726662660892 tw2424530652539479025 tw5163432232517568876 tw17864177559775696323 tw1831086103463868007 tw15182854941836623816 tw16367152428124194580 tw11874090927593530592 tw13025469423751694120 tw13543975374629157438 tw15602735033843098068 tw12653673493040975906 tw2346483172361351161 tw5464228764615565918 tw15787410123295825113 tw7120549343918158310 tw4532987572281472360 tw6029860994724721867 tw18262936937950884513 tw4403517626840748544 tw911945103196945727 tw4507806619396320226 tw4574646197040159793 tw4844273208245486075 tw18048933939044884712 tw10297294651391996232 tw7374948720926773423 tw518329015815386046 tw214734352927729986 tw8792026711584381035 tw9522776030481175399 tw1622163508919735643 tw3839639847220034285 tw13714818956422429157 tw8760044382223000239 tw3437966454169068883 tw1883327176343354803 tw11250159531173394336 tw7036066721060517384 tw4036373772737333531 tw4227801285457182988 tw18145332378861444144 tw864738185334088396 tw14477787749214752061 tw5772843993717222126 tw1951731751203287392 tw17888026363568735997 tw12010036069925201417 tw16712056916292390353 tw8622493356780868200 tw14167553428604957134 tw15383770360283903060 tw3580229804200611324 tw3411197530901778391 tw6822548567164473624 tw13727622811980844265 tw6699524265615440644 tw8053926145990918973 tw6100088023820606965 tw12471039888078438224 tw1897244546957670895 tw5156924270270112974 tw8084135114188097312 tw15045600419545087474 tw11596027083676091817 tw9157234079803872137 tw16486005856150950692 tw817207865540366835 tw696227292656009264 tw1646031071215441708 tw15279581784735354824 tw3207787774877129047 tw14897628394770322784 tw6138641512368495913 tw2956831161210240139 tw5025537649298299046 tw8061556883861905273 tw13279761864897210144 tw16749535135710221262 tw6062207357948871822 tw17969248696657731958 tw7899996740743183313 tw3254721335868045015 tw4358969098355466848 tw17086751953021826333 tw6884961456040035660 tw9462389169894546065 tw1935126166319817006 tw16183662294178251601 tw6956407982061785118 tw14642306426097156399 tw12304006155299479449 tw4368216973030312099 tw17618592467916290097 tw9012353071502621282 tw8425520935317616537 tw3001813511218152670 tw9938026163557087687 tw16285084501964662954 tw1286912397892271230 tw3405321887114110363 tw5828195914697994030 tw11443138315241438897 tw2045613197328822715 tw13516114012755336534 tw15465344114496495960 tw2660483425320383806 tw17954828433047846220 tw3389488663514183663 tw26924062968138548 tw6639013523409092948 tw507795164023571658 tw6772127116085451804 tw14024620354501636204 tw17817017892151587349 tw6704721327999196565 tw17077634455608344246 tw8611081945401134011 tw1044662234119763552 tw8392239959964731994 tw16197404438544489083 tw872655457225199495 tw11620558914178496413 tw6181077420595555740 tw6622881188110065122 tw2146201717975645314 tw2800719187973367047 tw3340922485188668679 tw16713628280645607623 tw14030230317161398155 tw13305448744459038826 tw10426482246743856427 tw9432728030377408651 tw7055328774054411009 tw16365225780916676572 tw18284758560176647015 tw13393201186814821818 tw10045049179257572742 tw8995686795653463127 tw17839754947412464620 tw11365465262246307631 tw4333300978464929855 tw1944165775192918808 tw9122060648376280020 tw3362263767066461166 tw3022690553167381664 tw17363214566911261984 tw6334379677623622596 tw6533460099770744722 tw6135249494137915891 tw7273405180587408271 tw12615225346993375617 tw13702239485186962018 tw4807228877704907569 tw15582606743664396916 tw15234806898948031740 tw5437156613899481385 tw17119385860300819393 tw8522821329449510417 tw15402674254630321297 tw9855041971987979283 tw4089884713443302377 tw5862441062484239050 tw10124746584506587348 tw2061493596951487381 tw13368322928051475374 tw8894285504231131693 tw17457088173325363606 tw6189199282437910498 tw6661008124349148780 tw6508586276170602296 tw4575657071055148627 tw16200026037783917116 tw4960564960492988481 tw924508719456351331 tw12372022939132547417 tw6374178087809384337 tw7989435221103907013 tw17022492224381577164 tw18333173827724799654 tw10459752787496480035 tw9125254212172718621 tw6419571533439349877 tw8671294315356641641 tw358740649352216998 tw5878245840397434830 tw12091955586143846916 tw11010060511849361559 tw7204563118763961283 tw3292256991038903066 tw13140163729318291200 tw4923392123340468325 tw12806656837896576896 tw1347341032303937407 tw677133186232576922 tw8058731423330728602 tw642113182203231737 tw5548735711317627551 tw2808339390053467880 tw15089532459635361941 tw8142873984597041390 tw17746058954612531937 tw8727517565658729704 tw8464806532764503535 tw9928068123023818752 tw2294956244142928498 tw2096234963707584413 tw6914296725241037676 tw16696298661935593552 tw2844584618824229169 tw5191537442644123362 tw490505132820086927 tw7510547645221700976 tw5908840219830941586 tw376306888604605436 tw15248676760644459478 tw13041156134784409702 tw12951215333665283461 tw2656177680183082466 tw9164919482386942351 tw2594596012554025622 tw16295540487241399428 tw10322733743389607272 tw15164870511934455321 tw1437439223961421333 tw15217171339568167612 tw5538999563367011593 tw10122519802816297693 tw3541937052310857176 tw14971625085565326932 tw1337552970595039971 tw1383977660998698541 tw3131238292000702544 tw7595958680068075049 tw16217694125612566774 tw15959413657297665904 tw10158326351298950282 tw8391385352988053219 tw3190729912371184818 tw11893090505543011924 tw341987815411147016 tw10800339971296006947 tw13192590039912061194 tw15010714441594779762 tw13471909915914100576 tw3652742618822866776 tw12183770270748303981 tw13681175772846110746 tw5542791752498178045 tw7089199387365200723 tw10571100144577379280 tw4202716312600743405 tw8189520172049764499 tw10529076634495501210 tw2013232787642470472 tw14925231305745388952 tw11549021059828486709 tw2943094704715885516 tw11116825032337331125 tw17763187598986056910 tw18322463000571924276 tw2670028060000733986 tw13381804200051764027 tw300602361564560250 tw11537447073405901540 tw17774799493935235143 tw7262768457386043703 tw15124165158383741454 tw4067706688218850982 tw557690387504041383 tw15290023670417448478 tw3220068663761104015 tw2546882202580527109 tw13300499216530477749 tw14838386527986343803 tw16452980677127601918 tw9583680975585745634 tw3970066854483285147 tw18237194873108769220 tw14503501661432971182 tw4457829114854972959 tw6420620228394858221 tw4366249364759283280 tw5627704536826711414 tw11686523019590659073 tw4313162975348089400 tw11843157268398137405 tw10903840988728186801 tw11757927394922096756 tw7974478238989666679 tw15212872396931788174 tw17431105620785110896 tw14276290007970101209 tw3005243237199198203 tw9763977745312614161 tw1537437522465625740 tw17435399899650115330 tw9624556892801203407 tw200368022361543403 tw14361325287391976400 tw2957321656638230097 tw14111840672060293987 tw230098333568614140 tw5227536701163684105 tw12940007442433103310 tw18183688205699811716 tw10210465696691173583 tw3749088989946444339 tw17029502421601168642 tw2543778387638356684 tw2492407391414343048 tw10630616498044995782 tw7471011890228252463 tw2328971430087763641 tw16730861293387235980 tw5581450977126123160 tw11560423577396380722 tw16079858343374697298 tw14614957751438705713 tw15496309855756153513 tw9128154591101416426 tw17637575223914369127 tw10008937311647395513 tw6213759731414597248 tw16022036341433068012 tw11698628860205820698 tw2053408297975282733 tw627197237133056036 tw2944550221682810060 tw13507022583793208775 tw13729070646011306428 tw15313903911576163671 tw14280880456965167356 tw1056868097192196316 tw2783034225564429786 tw17536395927934593895 tw16054949222791782299 tw7906138955888755355 tw9005939155697021043 tw14638459423586285500 tw16144787753776372799 tw11515127021938115423 tw9295655502138699076 tw12415380365581742822 tw70755500189362883 tw13050272261843001950 tw1537090708859041366 tw4587536401443894987 tw16549508801147784254 tw10835558597898218157 tw7544442165199317259 tw4834019064555683735 tw13055246026953660375 tw4125288247604639644 tw15127794769747019238 tw4998897557056384945 tw7111067491669957072 tw10375558007978477121 tw11187017307079050674 tw4515866955049921241 tw18407364613922461652 tw15446521110266054552 tw6393014824646182972 tw9722410008588732443 tw7217428360559576118 tw3892872510301683462 tw7849728804023176951 tw7575556566546042763 tw9942992948446242268 tw1872747469613291976 tw15124047714098380822 tw11140564512256842833 tw2413561827163213692 tw6031786989107462856 tw14605155176593842641 tw5586069233435269345 tw11698616719642771656 tw5676341786079877563 tw11463297513153048206 tw18436099598603553780 tw11444495434206465817 tw4661707181946888189 tw11476205816010009729 tw677538208876644506 tw16387126955072763081 tw8820477441160993311 tw4056649696159654846 tw2651704079495339544 tw6110442479006902557 tw7746116383542590417 tw13765107974063545653 tw4798181995438330983 tw3440787185167676178 tw6939285721607741022 tw4298791958793676127 tw9647372116008305354 tw16808231251211593258 tw3486636462153385887 tw2374562915633476782 tw17212493499393930859 tw3879309476070250210 tw2174531134190731524 tw9060860155347702536 tw11791726396793070226 tw9369894912079261618 tw14021505871347140613 tw5060050040266732785 tw1888518345316995536 tw1154825085460355389 tw5666188313464778698 tw7065610445885656771 tw637122038055985084 tw2197792883940881860 tw8075872176997885433 tw17037974478610103621 tw13075853595517940697 tw862468412211028050 tw17619309435299925445 tw11288580182425590976 tw7454483764039609874 tw17713120923480353451 tw10853458085053042311 tw5018723755282848390 tw6154792697680848185 tw13728585863575359157 tw14394895645562999447 tw13192662420699156870 tw10404560872820992871 tw10814223179370354913 tw16017754310676094572 tw18367794474679969888 tw10593330102824898861 tw2468133807821497084 tw2319585356865394422 tw10612352454192443496 tw3732356443309028637 tw5982339934195858065 tw14634250816508388598 tw662399826825568208 tw16610643566456699373 tw15576419914968024183 tw204849756249255121 tw7087965988193104289 tw15338670247321758730 tw2263009711597607968 tw12234130237969108179 tw5733905591210143938 tw14908124990997685009 tw4449755941811008006 tw10935582075204368752 tw11353077836971559260 tw10198054844892065398 tw8457735729631534308 tw18037413935180429966 tw1504887910476432012 tw4788103861394919857 tw2732110489723045264 tw16910851117383531722 tw3393516654930055513 tw11144709537101004709 tw11074242792926118219 tw16901875186106405110 tw16589723472837572559 tw992288579363345231 tw13345181276842491165 tw14039040457667607573 tw2212271541146480536 tw16001998167815435290 tw2003686376161511196 tw8162631544212941633 tw15898916504885758951 tw7585027276596269621 tw10472080822042247545 tw583618218927824250 tw719630190705595009 tw1659890489681213567 tw13556485352962323103 tw14674680482459623035 tw6725819645708456759 tw18133327838844964470 tw806219511151721807 tw3275112286772512125 tw5898509859973855811 tw15803246437071966608 tw7372559343216650194 tw13208322538285482429 tw410413592644719944 tw10808635965219277296 tw6993364124555630120 tw9900645793288769827 tw2403382830210863326 tw5223124678166730214 tw13332871410763653740 tw1638971490507141775 tw11034831421970165565 tw17976912315048069285 tw16024980005450320076 tw13530542585697890302 tw13520511003331492483 tw5495662053958456767 tw11291597118572015271 tw843515882651799580 tw17830064261429002631 tw17995225760957769209 tw18142061298421164099 tw5107233314130628231 tw10854575994789895726 tw4807195575687970504 tw16895676301377406046 tw8035002411811564745 tw3197096355147949060 tw2903133487225534870 tw7684865058808096177 tw3000376657687496082 tw5235197690531390468 tw16958046159462665346 tw15445376611419433986 tw13175450553710511303 tw1024886493258735388 tw7789452615777312527 tw15880381334017084193 tw11126946178519527191 tw5936158055171189726 tw14972684701375052304 tw4210850552346606382 tw9701197318212810521 tw8174720167760599538 tw13241275128079983027 tw12746151826746832765 tw13254179985901587372 tw18164510811026038387 tw2291761887690629811 tw1078198274725505118 tw9398022962470427646 tw1275744525966245535 tw14183129133635233866 tw11586266426839335510 tw13600337075131769978 tw4800059629833786972 tw6346008198740236849 tw7770662243819219217 tw8560849196158520380 tw18441525437230750705 tw7738542922962144420 tw14810950313861938044 tw15659588156219778071 tw4131693418605803094 tw14488670563750423062 tw1554855345454785503 tw6722254982272401881 tw8300367160276578695 tw3402730873810368348 tw1617474187636766080 tw6637582129413325978 tw10150831076343794298 tw379577516768835247 tw2082752528389783387 tw14000947861235278132 tw14048422600797559089 tw7312788421304915003 tw1387721175126378603 tw7600500772192707000 tw14921884282707627139 tw5787098530667258825 tw10963436011048858124 tw12571382563885474215 tw11922358201551333173 tw624557384886316069 tw17934285729040587188 tw6845986585548002609 tw13171862752186109396 tw6055041935476552456 tw12159519820689251158 tw11249205369049695168 tw7255466810573397398 tw9719035501313542023 tw1572387042410737202 tw4890900645537380603 tw5296468761974579072 tw11691087135637568974 tw8623473329118753887 tw10910975594300950577 tw17071851938219850918 tw7695713234477180917 tw15593446297460575235 tw4315508712773489747 tw9268760182828654037 tw16131001831276251740 tw6352425315399138370 tw10548312885673194449 tw13603438517815719793 tw10074932820413296530 tw5147213021774914124 tw5303281542449686525 tw17064081890699709193 tw8663711590881547870 tw499966571572338808 tw3773401144909003578 tw13870643070404841799 tw17073052538960659597 tw8154812097982537951 tw6638992663236091554 tw2619646636122519150 tw9245046610333928348 tw15525430991239374840 tw6606180299843924681 tw458359011071690953 tw11060235678486062984 tw15573642765852834813 tw15793680897488481494 tw12779397761684601388 tw7853979864386809658 tw15386833988094047206 tw5751362755174347185 tw15733338878153580184 tw9609836364975273045 tw14967571314758114205 tw16904862527933169419 tw12917983150532692057 tw4958133593810831571 tw12115073689525395699 tw5698535572020490724 tw9547177494822774121 tw12234515625810043450 tw9436579078959072715 tw15413247316611272319 tw2290525058761844213 tw14315990297225409598 tw10112263368382569836 tw2160298905173983431 tw11198156397562689154 tw13075744462429999757 tw17095095565498879301 tw11739399561434428331 tw12885319851321227984 tw11041653163487861321 tw8043391920973780348 tw16125898791174526277 tw10241155878140922529 tw6658681797150841097 tw14372963209276060663 tw7006095754989068434 tw16646634847753786290 tw7731359679878344278 tw4084660727907827718 tw16373878292552841123 tw5592385592398171164 tw2015058012096918260 tw9713873933433575023 tw15336579487774448220 tw15187167230473143400 tw12938974353726499370 tw18208280640866357328 tw14096498406862845889 tw7347442070502544051 tw17730189135023945617 tw5526065375931916826 tw10483958508334365992 tw3568634521115860170 tw12190371451501589616 tw8061297351611113343 tw7410194499960787619 tw17598583663048849258 tw16155511842420728154 tw7642416482077136536 tw3364137998704047233 tw2978235637012300973 tw2622812630667426204 tw14384179150762302935 tw14948097169955216367 tw11579165547313506173 tw18191069706848609158 tw17746757971158711930 tw6300483374451236976 tw11665414856702358934 tw5561287292577073294 tw60710460771881925 tw4976531598641894987 tw7335061306959048873 tw10107503420365792111 tw13957412091678082913 tw685525857746457884 tw9798022918195221545 tw7321455603470436708 tw12528064379627142894 tw14822424232998420135 tw6158860325157546847 tw8473112068372323356 tw11585166002745404999 tw13420754762088190774 tw4594067022558186727 tw3268151314877072706 tw6330192022447288546 tw12062097442184920235 tw9661128526611119564 tw12463499520901190740 tw14681010302293881892 tw12752119441476602902 tw14491521965019126127 tw4282777573348446547 tw9750565126215383298 tw15306605360269472407 tw5077554175238200858 tw16917843192297979721 tw6849946798481751090 tw15010702756047158989 tw15231203211898455899 tw9601010724940944034:True)
open PySem PySem.W PyProof.Rows
set_option maxRecDepth 100000 in
set_option maxHeartbeats 0 in
theorem PySem.Challenge.cw_layersplit_k31_points_counted_holds : PySem.Challenge.rw_layersplit_k31_points_counted.Holds := by
 w_on;o_law;k_head;(case hw=>w_witness2)
 k_fill
 refine L2.FR (l:=PySem.Challenge.rw_layersplit_k31_points_counted) (n:=63) (k:=16) (x:="_law_script") (CX:=L2.dk) (sp:=My.Ge) rfl (by decide) rfl ⟨rfl,by decide,by decide⟩ (λw h Y=>PySem.W.kIn_of Y) ?F ?S ?C
 case F=>
  intro w mg fa h KX G hmg;have T:∃a:My.iK,My.Txt (L2.KOf KX) mg a/\w.params=a.pm:=by
   dsimp only[L2.KOf]
   refine' My.Nh KX G ..
   rotate_left 25
   iterate 17(exact L2.HV (by k_is))
   exact⟨by k_is,by k_is,by k_is,by k_is,by k_is,by k_is⟩
   iterate 3(exact L2.DE (by k_is))
   exact⟨by k_is,by k_is,by k_is,by k_is,by k_is,by k_is⟩
   iterate 3(exact L2.DE (by k_is))
   exact⟨by k_is,by k_is,by k_is,by k_is,by k_is,by k_is⟩
   iterate 7(exact L2.DE (by k_is))
   exact⟨by k_is,by k_is,by k_is,by k_is,by k_is,by k_is⟩
   iterate 6(exact L2.DE (by k_is))
   iterate 13(exact L2.OT (by k_exc))
   iterate 44(exact L2.Ly (by k_is) (L2.C4 (by k_is) (by k_is) (by k_is)))
   iterate 29(exact L2.Oz (by k_is) (by k_is) (L2.C4 (by k_is) (by k_is) (by k_is)))
   iterate 17(exact L2.Ly (by k_is) (L2.C4 (by k_is) (by k_is) (by k_is)))
   iterate 14(exact⟨_,by k_is⟩)
   exact L2.HV (by k_is)
   k_is
   k_keys
   decide
   iterate 10(exact⟨_,by k_is⟩)
   exact L2.HV (by k_is)
   k_is
   (repeat(first|exact .nil|refine .cons ⟨_,rfl⟩ ?_))
   iterate 19(exact L2.NL (by k_is))
  obtain⟨a,T,hw⟩:=T;have e0:=hmg.symm.trans T.law.m;cases e0;exact⟨a.law.d,My.EX T,λbase kb nb=>My.MG T hw⟩
 case S=>exactλK H a ns hl hO hS=>My.EW hl hS
 case C=>exactλ_ _ _ _ z=>z
#print axioms PySem.Challenge.cw_layersplit_k31_points_counted_holds
