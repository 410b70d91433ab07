import PyProof.Rows.All
import Wide.All
import OpenK.AllK
import Wide.FinOn
import Lean
import PyProof.EqAt
import PyProof.EqKinds
import PyProof.TupleCall
import PyProof.WalksMore
import PyProof.SetScanFacts
import PyProof.Logic
import PyProof.FactsBase
import PyProof.TableTree
import PyProof.FactsTree
import PyProof.PlainAttrs
import PyProof.DictWalks
import PyProof.SetKind
import PyProof.ForAny
import PyProof.FactsAll.set_1
import PyProof.CollectWalk
import PyProof.WalkLemmas
import PyProof.FactsAll.set_2
import PyProof.Walk
import PyProof.Rows.SortStr
import KE.KRevIter
import KE.KDictList
import KE.KDictLaws
import PyProof.FString
import OpenK.KTop
import PyProof.StrLawsTight
import PyProof.Rows.StrLawsPart
import KE.KIntText
import PyProof.Rows.StrSplitJoin
import PyProof.ZipIter
import KE.IntTextLaws
import KE.KDictOf
import PyProof.AttrMissHeap
import PyProof.EnumMake
import PyProof.EnumFor
import PyProof.Draws
import PyProof.DictItems
import KE.KPairComp
import KE.KSortTup
import PyProof.Rows.SortWalk
import PySem.Challenge.RW_layersplit_k44_whole_nobody_shut_comes_i
set_option Elab.async false
set_option linter.all false
set_option maxRecDepth 100000
set_option compiler.extract_closed false
def a_:=@PySem.wpAny_bind
def b_:=@List.length_map
def c_:=@PySem.Heap.get?_push_of_some
def d_:=@List.getElem?_eq_some_iff
def e_:=@Nat.le_refl
def f_:=@PySem.wpAny_pure
def g_:=@List.mem_of_getElem?
def h_:=@PySem.Heap.get?_push_size
def ig:=@List.getElem?_map
def il:=@List.getElem?_eq_getElem
def iq:=@List.mem_iff_getElem?
def ir:=@List.map_append
def iA:=@if_neg
def i_:=@if_pos
def ji:=@PySem.sizeLine_eq
def j1:=@List.length_append
def j2:=@PySem.Heap.lt_size
def j_:=@List.mem_cons_of_mem
def kl:=@Int.natCast_nonneg
def ku:=@List.take_of_length_le
def kw:=@Bool.false_ne_true
def k_:=@List.mem_map
def lm:=@Nat.le_trans
def l_:=@of_decide_eq_true
def md:=@List.size_toArray
def me:=@decide_eq_false
def mo:=@List.mem_cons_self
def mu:=@Option.some.inj
def m3:=@Nat.ne_of_lt
def m_:=@decide_eq_true
def nk:=@Bool.and_eq_true
def np:=@Nat.zero_le
def nB:=@Array.length_toList
def n7:=@Nat.lt_of_lt_of_le
def n_:=@List.map_cons
def oa:=@List.length_take
def oi:=@List.length_cons
def ol:=@List.mem_append_left
def op:=@Nat.ne_of_gt
def ot:=@List.mem_append_right
def ov:=@List.nodup_append
def oD:=@List.getElem?_set_ne
def o0:=@PySem.PassesOwn.never
def o8:=@Ne.symm
def o_:=@List.not_mem_nil
def pu:=@Int.toNat_natCast
def pv:=@List.append_nil
def pw:=@List.mem_or_eq_of_mem_set
def p5:=@Sum.inr.inj
def p6:=@Nat.le_succ_of_le
def p_:=@PySem.Heap.size_push
def qq:=@PySem.wpAny_holding
def q_:=@PySem.wpAny_call_entry
def rb:=@PySem.wpAny_newObj_type
def rd:=@Nat.succ_pos
def ri:=@List.length_range
def rk:=@List.find?_cons_of_pos
def rl:=@List.find?_cons_of_neg
def rm:=@List.getElem?_eq_none
def ro:=@PySem.wpAny_callSpecial?_slot
def rr:=@List.length_eq_zero_iff
def ry:=@List.getD_eq_getElem?_getD
def rV:=@Nat.lt_irrefl
def r_:=@congrArg
def sf:=@Nat.le_succ
def sg:=@PySem.wpAny_setField_rec
def si:=@Nat.lt_of_le_of_lt
def so:=@List.mem_cons
def sD:=@List.replicate_succ
def sT:=@PySem.wpAny_truthy_bool
def s_:=@List.map_map
def th:=@PySem.Calls.spliced_cons
def to:=@List.find?_cons
def tx:=@Int.natCast_pos
def tA:=@PySem.Calls.callWith_builtin
def t6:=@List.getElem?_append_left
def t8:=@List.filterMap_cons
def t_:=@Nat.lt_succ_of_lt
def u_:=@List.take_append_drop
def vl:=@List.filterMap_append
def vr:=@PySem.Heap.get?_update_self
def vu:=@PySem.wpAny_ite_split
def v_:=@PySem.wpAny_field
def wh:=@Nat.lt_succ_self
def wr:=@List.mem_range
def w_:=@List.getElem?_set_self
def x3:=@PySem.Heap.get?_update_other
def x_:=@Array.getElem?_eq_getElem
def yl:=@List.length_filter_le
def y2:=@Array.getElem?_toList
def y3:=@PySem.wpAny_Call_Name_kw
def y_:=@Nat.succ_le_succ
def z3:=@Option.isSome_iff_exists
def z4:=@Nat.le_of_lt
def z7:=@List.any_cons
def z8:=@PySem.wpAny_seqItems
def z_:=@PySem.Calls.evalArgs_plain
def A_:=@List.take_add_one
def B_:=@PySem.Calls.spliced_nil
def C2:=@PySem.wpAny_rule
def C_:=@List.mem_filter
def D_:=@List.length_set
def Es:=@List.foldl_cons
def E1:=@beq_eq_false_iff_ne
def E2:=@List.map_congr_left
def E_:=@List.length_take_le
def F_:=@PyProof.Rows.callWith_type1
def G_:=@List.getElem?_append_right
def Ha:=@PySem.wpAny_dictEpoch
def H_:=@Nat.lt_trans
def I_:=@List.getElem?_inj
def J_:=@List.ext_getElem?
def K_:=@List.length_filterMap_le
def L_:=@Int.toNat_of_nonneg
def MF:=@PySem.Heap.SameBut.update
def MG:=@beq_self_eq_true
def MH:=@List.take_zero
def MI:=@PySem.tupleKind_room_in1
def MJ:=@PySem.codeAny_mono
def MK:=@PySem.call_meetsIn
def ML:=@or_false
def MM:=@List.of_mem_zip
def MN:=@List.length_replicate
def MO:=@PySem.wpAny_setState_of
def MP:=@List.foldl_append
def MQ:=@List.flatten_cons
def MR:=@List.append_assoc
def MS:=@Nat.pow_le_pow_right
def MT:=@List.nodup_nil
def MU:=@List.nodup_iff_pairwise_ne
def MV:=@PySem.F.slot_tuple_iterator_next
def MW:=@PySem.Around.under_plainId
def MX:=@PySem.wpAny_askSetting
def MY:=@Nat.le_of_eq
def MZ:=@List.getElem?_eq_none_iff
def M0:=@PySem.codeAny_builtin
def M3:=@Option.map_some
def M5:=@Int.emod_nonneg
def M6:=@PySem.wpAny_pyIter_tuple
def M7:=@Int.emod_lt_of_pos
def M8:=@Bool.false_eq_true
def M9:=@PySem.wpAny_getItem_str_slice
def M_:=@PySem.wpAny_Call_method
def Na:=@PySem.builtinLookup_eq_fast
def Nb:=@Nat.min_le_right
def Nc:=@List.mem_reverse
def Nd:=@List.length_drop
def Nf:=@List.getElem_mem
def Ng:=@List.all_eq_true
def Nh:=@PySem.plainId_quiet
def Ni:=@List.all_cons
def Nj:=@Prod.mk.inj
def Nk:=@List.mem_of_mem_take
def Nl:=@PySem.Heap.get?_push_cases
def Nm:=@PySem.wpAny_passesOwn
def No:=@PySem.wpAny_execs_nil
def Np:=@Nat.not_lt_zero
def Nq:=@PySem.wpAny_setEntries_of
def Nr:=@Nat.mul_le_mul_left
def Nt:=@List.length_reverse
def Nu:=@List.filterMap_map
def Nv:=@Int.fdiv_eq_ediv_of_nonneg
def Nw:=@Classical.byContradiction
def Nx:=@PySem.wpAny_pyIter_list
def Ny:=@Option.some.injEq
def Nz:=@Option.isSome_map
def NA:=@Nat.lt_of_succ_lt
def NB:=@List.take_sublist
def NC:=@List.getElem?_set
def ND:=@List.find?_append
def NE:=@PySem.wpAny_attempt
def NF:=@List.getElem?_take_of_lt
def NG:=@List.filterMap_cons_none
def NH:=@List.eq_of_mem_replicate
def NI:=@PySem.AutoSeq1.wpAny_loadPart'
def NJ:=@PySem.wpAny_isInstance
def NK:=@PySem.wpAny_eqBool_str
def NL:=@if_false
def NM:=@Nat.le_max_right
def NN:=@List.lookup_cons
def NO:=@List.filter_cons
def NP:=@List.any_eq_true
def NQ:=@PyProof.Rows.F.plain_set_update_loop
def NR:=@Nat.pow_succ
def NS:=@Nat.lt_or_ge
def NT:=@List.map_nil
def NU:=@PySem.wpAny_specialOf
def NV:=@PySem.typeLookup_type
def NW:=@PySem.post_val_or_str
def NX:=@Nat.le_max_left
def NY:=@List.range_succ
def NZ:=@List.nodup_cons
def N1:=@List.length_nil
def N2:=@List.forIn_cons
def N3:=@PySem.F.slot_zip_next
def N4:=@Bool.eq_iff_iff
def N5:=@Nat.le_of_ble_eq_true
def N6:=@List.getElem?_toArray
def N7:=@PySem.isSubtype_type
def N8:=@Option.or_none
def N9:=@List.length_take_le'
def N_:=@List.Perm.refl
def Oa:=@Int.le_refl
def Ob:=@List.take_nil
def Oc:=@List.map_take
def Od:=@List.map_singleton
def Oe:=@List.getElem?_drop
def Of:=@List.find?_eq_none
def Og:=@List.filter_append
def Oh:=@PySem.wpAny_typeOf
def Oi:=@PySem.wpAny_pyIter_slot
def Oj:=@if_true
def Ol:=@List.any_eq_false
def Om:=@List.Sublist.refl
def On:=@Int.ofNat_le
def Oo:=@Int.le_of_lt
def Op:=@Int.emod_eq_of_lt
def Oq:=@Array.toList_push
def Os:=@PyProof.Rows.slot_tuple_getitem
def Ot:=@PySem.wpAny_forIn_list
def Ou:=@PySem.wpAny_execs_cons
def Ov:=@Nat.le_of_not_lt
def Ow:=@List.take_length
def Ox:=@List.getElem_map
def Oy:=@List.take_append_of_le_length
def Oz:=@List.map_id
def OA:=@PySem.wpAny_updateSeq
def OB:=@Nat.le_add_left
def OC:=@List.cons.injEq
def OD:=@List.Perm.of_eq
def OE:=@PySem.F.args_tuple_iterator_next_1
abbrev OF:=PySem.W.Frag
abbrev OG:=PySem.Value->PySem.Shared->Prop
abbrev OH:=List (PySem.Addr×PySem.Obj)
abbrev OI:=PySem.Str->Option PySem.Value
abbrev OJ:=List PySem.Value
abbrev OK:=PySem.Program
abbrev OL:=List PySem.Str
abbrev OM:=List PySem.Expr
abbrev ON:=Array PySem.Value
abbrev OO:=List Nat
abbrev OP:=List PySem.Addr
abbrev OQ:=List Int
set_option genSizeOf false in
inductive My.Ro|hh|ln|tn|ci|dl|lo(i:Nat)|iu(i:Nat)|tb(i:Nat)|od(i:Nat)|td(i:Nat)|tr(i:Nat)|ba(i:Nat)deriving DecidableEq
noncomputable section
local macro_rules|`(tactic|show $e)=>`(tactic|refine $e)
local macro_rules|`(())=>`(rfl)
local macro_rules(kind:=«term{_}»)|`({$a,*})=>`(⟨$a,*⟩)
local macro_rules|`(($a,$b,*))=>if b.elemsAndSeps.size%2==0 then `(⟨$a,$b,*⟩)else Lean.Macro.throwUnsupported
namespace L2
open PySem PySem.Spec PyProof.Rows
abbrev bK:=Sum Int Str
def nX:bK->Value->Bool|.inl k,v=>Value.isInt k v|.inr x,v=>Value.isStrOf x v
def Ml(w:World):bK->Int|.inl k=>hashInt k|.inr x=>hashStr w x
def cJ:∀{k:bK}{v:Value},nX k v=true->(∃i t,k=Sum.inl i/\v=Value.int i t)\/(∃x t,k=Sum.inr x/\v=Value.str x t)|.inl i,v,h=>by obtain⟨t,e⟩:=Value.isInt_shape (k:=i) (v:=v) h;show .inl {i,t,(),e}|.inr x,v,h=>by obtain⟨t,e⟩:=Value.isStrOf_shape (x:=x) (v:=v) h;show .inr {x,t,(),e}
def vS(i:Int)(t:Tok):nX (.inl i) (.int i t)=true:=by simp[nX,Value.isInt]
def vR(x:Str)(t:Tok):nX (.inr x) (.str x t)=true:=by simp[nX,Value.isStrOf]
def JF(a b:Int):decide ((Sum.inl a:bK)=Sum.inl b)=(a==b):=by
 by_cases e:a=b
 ·subst e;simp
 ·have h:¬(Sum.inl a:bK)=Sum.inl b:=λq=>e (Sum.inl.inj q);rw[me h];show(E1.mpr e).symm
def JA(a b:Str):decide ((Sum.inr a:bK)=Sum.inr b)=decide (a=b):=by
 by_cases e:a=b
 ·subst e;simp
 ·have h:¬(Sum.inr a:bK)=Sum.inr b:=λq=>e (p5 q);rw[me h,me e]
def JE(a:Int)(b:Str):decide ((Sum.inl a:bK)=Sum.inr b)=false:=me (nofun)
def JB(a:Str)(b:Int):decide ((Sum.inr a:bK)=Sum.inl b)=false:=me (nofun)
def aV(prog:OK)(w:World):PySem.KeyKind prog w bK where
 is:=nX
 hash:=Ml w
 inj:=λv a b g f=>by
  rcases cJ g with⟨i,t,rfl,rfl⟩|⟨x,t,rfl,rfl⟩
  ·rcases cJ f with⟨j,u,rfl,e⟩|⟨y,u,rfl,e⟩
   ·injection e with c _;rw[c]
   ·show nomatch e
  ·rcases cJ f with⟨j,u,rfl,e⟩|⟨y,u,rfl,e⟩
   ·show nomatch e
   ·injection e with c _;rw[c]
 byValue:=λk v h=>by rcases cJ h with⟨i,t,rfl,rfl⟩|⟨x,t,rfl,rfl⟩<;>rfl
 pyHash:=λd h=>by
  rcases cJ d with⟨i,t,rfl,rfl⟩|⟨x,t,rfl,rfl⟩
  ·show wpAny_pyHash_int h
  ·show wpAny_pyHash_str h
 eqBool:=λl d h=>by
  rcases cJ l with⟨i,t,rfl,rfl⟩|⟨x,t,rfl,rfl⟩
  ·rcases cJ d with⟨j,u,rfl,rfl⟩|⟨y,u,rfl,rfl⟩
   ·rw[JF]at h;show wpAny_eqBool_int h
   ·rw[JE]at h;show SeqAt.EqAt.int_str i t y u _ _ _ _ h
  ·rcases cJ d with⟨j,u,rfl,rfl⟩|⟨y,u,rfl,rfl⟩
   ·rw[JB]at h;show SeqAt.EqAt.str_int x t j u _ _ _ _ h
   ·rw[JA]at h;show NK h
 «strs»:=λk x t v h=>by
  rcases cJ h with⟨i,u,rfl,e⟩|⟨y,u,rfl,e⟩
  ·show nomatch e
  ·injection e with c _
   subst c
   cases v<;>rfl
def zO(prog:OK)(w:World)(k:bK)(v:Value):(aV prog w).is k v=nX k v:=rfl
def yC(prog:OK)(w:World)(i:Int)(t:Tok):(aV prog w).is (.inl i) (.int i t)=true:=vS i t
def rg(prog:OK)(w:World)(x:Str)(t:Tok):(aV prog w).is (.inr x) (.str x t)=true:=vR x t
inductive V where|non|bl(b:Bool)|int(i:Int)|str(x:Str)|byt(b:Array UInt8)|flt(b:UInt64)|ref(a:Addr)|ty(n:String)deriving DecidableEq
def a0:V->Value->Prop|.non,u=>u=Value.none|.bl b,u=>u=Value.bool b|.int i,u=>∃t,u=Value.int i t|.str x,u=>∃t,u=Value.str x t|.byt b,u=>∃t,u=Value.bytes b t|.flt b,u=>∃t,u=Value.float b t|.ref a,u=>u=Value.ref a|.ty n,u=>u=Value.type n
abbrev be:List V->List Value->Prop:=Paired a0
theorem be.length(r:be a c):a.length=c.length:=Paired.length r
theorem be.get:∀{a:List V}{c:OJ}{i:Nat}{x:V},be a c->a[i]?=some x->∃u,c[i]?=some u/\a0 x u|_,_,_,_,.nil,e=>by simp at e|_,_,0,_,.cons r _,e=>by simp at e;subst e;show{_,(),r}|_,_,i+1,x,.cons _ t,e=>by obtain⟨u,h1,h2⟩:=be.get (i:=i) (x:=x) t (by simpa using e);show{u,by simpa using h1,h2}
theorem be.set(r:a0 x u):∀{a:List V}{c:OJ}(i:Nat),be a c->be (a.set i x) (c.set i u)|_,_,_,.nil=>.nil|_,_,0,.cons _ t=>.cons r t|_,_,i+1,.cons q t=>.cons q (be.set r i t)
theorem be.append:∀{a c:List V}{e f:OJ},be a e->be c f->be (a++c) (e++f)|_,_,_,_,.nil,s=>s|_,_,_,_,.cons r t,s=>.cons r (be.append t s)
theorem be.take:∀{a:List V}{c:OJ}(n:Nat),be a c->be (a.take n) (c.take n)|_,_,0,_=>.nil|_,_,_+1,.nil=>.nil|_,_,n+1,.cons r t=>.cons r (be.take n t)
theorem be.drop:∀{a:List V}{c:OJ}(n:Nat),be a c->be (a.drop n) (c.drop n)|_,_,0,r=>r|_,_,_+1,.nil=>.nil|_,_,n+1,.cons _ t=>be.drop n t
def kK:Option V->Option Value->Prop|some v,some u=>a0 v u|none,none=>True|_,_=>False
def KV{a:Type}:List (a×V)->List (a×Value)->Prop:=Paired λ(p:a×V)(q:a×Value)=>p.1=q.1/\a0 p.2 q.2
def kV:bK->V|.inl i=>.int i|.inr x=>.str x
inductive HO where|lst(xs:List V)|tup(xs:List V)|dK(kvs:List (bK×V))|dT(kvs:List (List bK×V))|set(S:Int->Bool)(n:Nat)|ins(C dx:Addr)(fs:List (Str×V))|own(x:Addr)|xd(fs:List (Str×V))|met(f x:Addr)|rng(lo hi:Int)|frz(o:Obj)(u:HO)|tbl(ps:ON)|ext(φ:Heap->Prop)
abbrev Hp:=Addr->Option HO
def aH(H:Hp)(a:Addr)(o:HO):Hp:=λb=>if b=a then some o else H b
def ag:aH H a o a=some o:=by unfold aH;rw[i_ ()]
def aq(h:b≠a):aH H a o b=H b:=by unfold aH;rw[iA h]
def gZ:aH (aH H a o) a u=aH H a u:=by funext b;unfold aH;split<;>rfl
def Lh{H:Hp}{a b:Addr}{o u:HO}(h:H a=some o)(h':H b=some u)(d:o≠u):a≠b:=by intro e;subst e;rw[h]at h';show d (mu h')
def aG{H:Hp}{a b:Addr}{o:HO}(h:H a=some o)(h':H b=none):a≠b:=by intro e;subst e;rw[h]at h';cases h'
section
variable(P:OK)(w:World)
def c8(H:Hp)(h:Heap)(a:Addr):HO->Prop|.lst d=>d.length<=sizeLine/\∃(b:OJ)(n:Nat),be d b/\h.get? a=some {cls:=.type "list",data:=.seq b.toArray n}|.tup d=>d.length<=sizeLine/\∃b:List Value,be d b/\IsTup h a b.toArray|.dK c=>c.length<=sizeLine/\(a==sysModules)=false/\∃g,KV c g/\h.DictOf (aV P w) a g|.dT c=>c.length<=sizeLine/\(a==sysModules)=false/\∃d:List (List bK×Addr×Value),Paired (λ(p:List bK×V)(q:List bK×Addr×Value)=>p.1=q.1/\H q.2.1=some (.tup (p.1.map kV))/\a0 p.2 q.2.2) c d/\∃o i j,h.get? a=some o/\o.ExactDict/\o.data=.dict i j/\i.toList=d.map (entryOfKey (tupleKind (aV P w)))/\(d.map (·.1)).Nodup|.set S n=>h.SetOf (intKind P w) a S n|.ins C dx fs=>H dx=some (.own a)/\fs.length<=1000/\dx≠a/\h.get? a=some (PySem.W.instObj C dx)/\∃e,h.Ns1 dx e/\(∀f,kK (fs.lookup f) (e f))/\PySem.Within e (fs.map (·.1))|.own _=>∃o,h.get? a=some o|.xd fs=>∃e,h.Ns1 a e/\∀f,kK (fs.lookup f) (e f)|.rng lo hi=>∃t u v,h.get? a=some {cls:=.type "range",data:=.fields #[.int lo t,.int hi u,.int 1 v]}|.frz o u=>h.get? a=some o/\c8 H h a u|.tbl k=>h.get? a=some {cls:=.none,data:=.fields k}|.met f x=>h.get? a=some (PySem.W.methodObj (.ref f) (.ref x))|.ext φ=>φ h/\(∃o,h.get? a=some o)/\∀h1 h2:Heap,φ h1->(∀o,h1.get? a=some o->h2.get? a=some o)->φ h2
def lG(H:Hp)(h:Heap):Prop:=∀a o,H a=some o->c8 P w H h a o
end
section
variable{P:OK}{w:World}{H g:Hp}{h h':Heap}{a:Addr}{o:HO}
theorem c8.lt(x:c8 P w H h a o):a<h.objs.size:=by cases o with|lst c=>obtain⟨_,_,_,_,e⟩:=x;show j2 e|tup c=>obtain⟨_,_,_,p⟩:=x;show p.lt|dK b=>obtain⟨_,_,_,_,o,_,_,e,_⟩:=x;show j2 e|dT b=>obtain⟨_,_,_,_,o,_,_,e,_⟩:=x;show j2 e|set S n=>obtain⟨o,_,_,_,e,_⟩:=x;show j2 e|ins C dx fs=>obtain⟨_,_,_,e,_⟩:=x;show j2 e|own y=>obtain⟨_,e⟩:=x;show j2 e|xd fs=>obtain⟨_,⟨_,_,_,e,_⟩,_⟩:=x;show j2 e|rng lo hi=>obtain⟨_,_,_,e⟩:=x;show j2 e|frz ob u=>obtain⟨e,_⟩:=x;show j2 e|tbl d=>show j2 (show h.get? a=some _ from x)|met f y=>show j2 (show h.get? a=some _ from x)|ext φ=>obtain⟨_,⟨_,e⟩,_⟩:=x;show j2 e
theorem Paired.mapP:∀{c:List i}{e:List j},Paired F c e->(∀a b,F a b->G a b)->Paired G c e|_,_,.nil,_=>.nil|_,_,.cons r t,f=>.cons (f _ _ r) (Paired.mapP t f)
def c8.stay(x:c8 P w H h a o)(k:∀b u,(b=a\/H b=some (.own a))->h.get? b=some u->h'.get? b=some u)(E:∀b,H b=some (.own a)->g b=some (.own a))(F:∀b m,H b=some (.tup m)->g b=some (.tup m)):c8 P w g h' a o:=by induction o with|lst m=>obtain⟨z,l,n,r,e⟩:=x;show{z,l,n,r,k _ _ (.inl ()) e}|tup m=>obtain⟨z,l,r,ob,e,c⟩:=x;show{z,l,r,ob,k _ _ (.inl ()) e,c}|dK s=>obtain⟨z,y,G,r,ob,i,j,e,c⟩:=x;show{z,y,G,r,ob,i,j,k _ _ (.inl ()) e,c}|dT s=>obtain⟨z,y,m,r,ob,i,j,e,c⟩:=x;show{z,y,m,Paired.mapP r λp q z=>{z.1,F _ _ z.2.1,z.2.2},ob,i,j,k _ _ (.inl ()) e,c}|set S n=>obtain⟨ob,i,j,t,e,c⟩:=x;show{ob,i,j,t,k _ _ (.inl ()) e,c}|ins C dx fs=>obtain⟨d,z,ne,e,A,⟨B,i,j,I,c⟩,r⟩:=x;show{E _ d,z,ne,k _ _ (.inl ()) e,A,{B,i,j,k _ _ (.inr d) I,c},r}|own y=>obtain⟨ob,e⟩:=x;show{ob,k _ _ (.inl ()) e}|xd fs=>obtain⟨A,⟨B,i,j,e,c⟩,r⟩:=x;show{A,{B,i,j,k _ _ (.inl ()) e,c},r}|rng lo hi=>obtain⟨t,u,v,e⟩:=x;show{t,u,v,k _ _ (.inl ()) e}|frz ob u J=>obtain⟨e,q⟩:=x;show{k _ _ (.inl ()) e,J q}|tbl D=>have e:h.get? a=some {cls:=.none,data:=.fields D}:=x;change h'.get? a=some {cls:=.none,data:=.fields D};show k a _ (.inl ()) e|met f y=>have e:h.get? a=some (PySem.W.methodObj (.ref f) (.ref y)):=x;change h'.get? a=some (PySem.W.methodObj (.ref f) (.ref y));show k a _ (.inl ()) e|ext φ=>obtain⟨p,⟨o,e⟩,st⟩:=x;show{st _ _ p λo q=>k _ _ (.inl ()) q,{o,k _ _ (.inl ()) e},st}
theorem lG.lt(x:lG P w H h)(e:H a=some o):a<h.objs.size:=(x a o e).lt
def lG.fresh(x:lG P w H h)(e:h.objs.size<=a):H a=none:=by cases q:H a with|none=>rfl|some u=>show absurd (n7 (x.lt q) e) (rV _)
def lG.kept(x:lG P w H h)(k:∀b u,h.get? b=some u->h'.get? b=some u):lG P w H h':=λa o e=>(x a o e).stay (λb u _ q=>k b u q) (λ_ q=>q) λ_ _ q=>q
def lG.laid(x:lG P w H h)(k:∀b u,h.get? b=some u->h'.get? b=some u)(f:h.objs.size<=a)(new:c8 P w (aH H a o) h' a o):lG P w (aH H a o) h':=λb u e=>by
 have hn:=x.fresh f
 by_cases d:b=a
 ·subst d;rw[ag]at e;cases e;show new
 ·rw[aq d]at e;show(x b u e).stay (λc v _ q=>k c v q) (λc q=>by rw[aq (aG q hn)];show q) λc i q=>by rw[aq (aG q hn)];show q
end
def Rd(H:Hp)(a:Addr)(u:HO):Prop:=H a=some u\/∃o,H a=some (.frz o u)
def Rd.ok(r:Rd H a u)(x:lG P w H h):c8 P w H h a u:=by
 rcases r with r|⟨o,r⟩
 ·show x a u r
 ·obtain⟨_,q⟩:=x a _ r;show q
def LO:Option HO->Prop|some (.lst _)=>True|some (.dK _)=>True|some (.dT _)=>True|some (.set _ _)=>True|some (.ins _ _ _)=>True|some (.ext _)=>True|_=>False
section
variable{P:OK}{w:World}{H:Hp}{h h':Heap}{x e:Addr}{a:HO}
def lG.write(ok:lG P w H h)(g:LO (H x))(m:e=x\/H e=some (.own x))(k:∀b u,b≠e->h.get? b=some u->h'.get? b=some u)(l:∃u,h'.get? e=some u)(new:c8 P w (aH H x a) h' x a):lG P w (aH H x a) h':=λb u q=>by
 have f:∀c y,H c=some (.own y)->c≠x:=λc y r z=>by subst z;rw[r]at g;show g
 have ntup:∀c i,H c=some (.tup i)->c≠x:=λc i r z=>by subst z;rw[r]at g;show g
 by_cases j:b=x
 ·subst j;rw[ag]at q;cases q;show new
 ·rw[aq j]at q
  by_cases d:b=e
  ·have n:H b=some (.own x):=by
    rcases m with z|z
    ·show absurd (d.trans z) j
    ·rw[d];show z
   rw[q]at n;cases n;obtain⟨v,o⟩:=l;show{v,by rw[d];show o}
  ·show(ok b u q).stay (λc v hc r=>k c v ?_ r) (λc r=>by rw[aq (f c b r)];show r) λc i r=>by rw[aq (ntup c i r)];show r
   rcases hc with rfl|hc
   ·show d
   ·rintro rfl;rcases m with z|z
    ·show f c b hc z
    ·rw[hc]at z;cases z;show j ()
end
structure Un(fs ex:OP)(H H':Hp)(h h':Heap):Prop where
 keep:∀b o,h.get? b=some o->H b=none->b∉fs->b∉ex->h'.get? b=some o
 slot:∀b o,h.get? b=some o->H b=none->b∈fs->b∉ex->∃sl,h'.get? b=some {o with slots:=sl}free:∀b o,h.get? b=some o->H b=none->b∉ex->H' b=none
 there:∀b o,h.get? b=some o->b∉ex->∃o',h'.get? b=some o'
 tups:∀b xs,H b=some (.tup xs)->H' b=some (.tup xs)frzs:∀b o u,H b=some (.frz o u)->H' b=some (.frz o u)tbls:∀b ps,H b=some (.tbl ps)->∃more,H' b=some (.tbl (ps++more))
section
variable{fs ex:OP}{H f:Hp}{h h1 h':Heap}{a x e:Addr}{o:HO}
def Un.any(u:Un fs ex H f h h1){b:Addr}{ob:Obj}(q:h.get? b=some ob)(n:H b=none)(j:b∉ex):∃sl,h1.get? b=some {ob with slots:=sl}:=by
 by_cases d:b∈fs
 ·show u.slot b ob q n d j
 ·show{ob.slots,u.keep b ob q n d j}
def Un.kept(k:∀b u,h.get? b=some u->h'.get? b=some u):Un fs ex H H h h':={λb ob q _ _ _=>k b ob q,λb ob q _ _ _=>{ob.slots,k b ob q},λ_ _ _ n _=>n,λb ob q _=>{ob,k b ob q},λ_ _ q=>q,λ_ _ _ q=>q,λ_ d q=>{#[],by rw[q];simp}}
def Un.refl:Un fs ex H H h h:=Un.kept λ_ _ q=>q
def Un.laid(k:∀b u,h.get? b=some u->h'.get? b=some u)(j:h.objs.size<=a)(hn:H a=none):Un fs ex H (aH H a o) h h' where
 keep:=λb u q _ _ _=>k b u q
 slot:=λb u q _ _ _=>{u.slots,k b u q}
 free:=λb u q n _=>by rw[aq (m3 (n7 (j2 q) j))];show n
 there:=λb u q _=>{u,k b u q}
 tups:=λb d q=>by rw[aq (aG q hn)];show q
 frzs:=λb u d q=>by rw[aq (aG q hn)];show q
 tbls:=λb l q=>{#[],by rw[aq (aG q hn),q];simp}
def Un.write(j:LO (H x))(s:e=x\/H e=some (.own x))(k:∀b u,b≠e->h.get? b=some u->h'.get? b=some u)(l:∃u,h'.get? e=some u):Un fs ex H (aH H x o) h h':=by
 have m:∀b,H b=none->b≠x:=λb n z=>by subst z;rw[n]at j;show j
 have p:∀b,H b=none->b≠e:=λb n z=>by
  subst z;rcases s with r|r
  ·show m b n r
  ·rw[n]at r;cases r
 have hm:∀b u,H b=some u->¬LO (some u)->b≠x:=λb u q nm z=>by subst z;rw[q]at j;show nm j
 show{λb u q n _ _=>k b u (p b n) q,λb u q n _ _=>{u.slots,k b u (p b n) q},λb u q n _=>by rw[aq (m b n)];show n,λb u q _=>?_,λb t q=>by rw[aq (hm b _ q λz=>z)];show q,λb u t q=>by rw[aq (hm b _ q λz=>z)];show q,λb v q=>{#[],by rw[aq (hm b _ q λz=>z),q];simp}}
 by_cases d:b=e
 ·subst d;show l
 ·show{u,k b u d q}
end
def LW(h:Heap)(H:Hp):List Addr:=(List.range h.objs.size).filter λa=>(H a).isSome
def xc(h:Heap)(H:Hp):Heap:=PySem.W.hideAll h (LW h H)
def Cf(h:Heap)(H:Hp):(xc h H).objs.size=h.objs.size:=PySem.W.hideAll_size _ _
def EQ(e:h.get? b=some o)(n:H b=none):(xc h H).get? b=some o:=PySem.W.hideAll_get _ e λhm=>by have q:(H b).isSome=true:=(C_.mp hm).2;rw[n]at q;simp at q
def GL(e:(xc h H).get? b=some o):h.get? b=some o/\H b=none:=by have a:h.get? b=some o:=PySem.W.of_hideAll (LW h H) e;show{a,?_};cases q:H b with|none=>rfl|some x=>have hm:b∈LW h H:=C_.mpr {wr.mpr (j2 a),by simp[q]};have z:(xc h H).get? b=none:=PySem.W.hideAll_none (LW h H) hm;rw[z]at e;cases e
def Hs(g h:Heap)(L:Addr):List (Addr×Obj):=(List.range h.objs.size).filterMap λa=>if a=L\/(g.get? a).isSome=true then none else(h.get? a).map λo=>(a,o)
def qp(g h:Heap)(L d:Addr):List (Addr×Obj):=(Hs g h L).filter λp=>decide (p.1≠d)
structure LP(K:OF)(mg:OI)(base:Heap):Prop where
 kin:K.In base
 glob:base.Ns mainGlobals mg
 blt:∃mb,base.Ns builtinsNs mb/\∀x:Str,x≠"__name__"->mb x=bootBuiltins x
 nolimit:base.NoLimit
structure Cx where
 prog:Program
 w:World
 K:OF
 mg:Str->Option Value
 base:Heap
 A:Around
 N:List Str
 s₀:Shared
 H₀:Hp
 env:Env
 outer:List Env
 stack:List Env
 ex:List Addr
 fn:Str->Bool
 calm:Bool
 pn:List (Addr×Obj)xe:Value->Shared->Prop
def jU(l:List Env):List Addr:=l.filterMap (·.frame)
abbrev Cx.fs(X:Cx):List Addr:=jU X.outer
def LZ(a:Scope)(x:Str):Prop:=a.names.lookup x=some .local\/a.names.lookup x=some .cell\/a.names.lookup x=some .free
def Ki(a:Scope)(x:Str):Prop:=a.names.lookup x=some .local\/a.names.lookup x=some .cell
def MC(env:Env)(h:Heap)(m:OI)(x:Str)(u:Value):Prop:=(env.kindOf x=some .local/\m x=some u)\/((env.kindOf x=some .cell\/env.kindOf x=some .free)/\∃c,env.cells.lookup x=some c/\h.IsCell c (some u))
structure Cx.Ok(X:Cx):Prop where
 mod:LP X.K X.mg X.base
 kind:X.env.scope.kind=.function
 glob:X.env.globals=mainGlobals
 blt:X.env.builtins=builtinsNs
 above:X.s₀.heap.objs.size<=X.env.locals
 inj:∀x y c,X.env.cells.lookup x=some c->X.env.cells.lookup y=some c->x=y
 has:∀x,(X.env.kindOf x=some .cell\/X.env.kindOf x=some .free)->∃c,X.env.cells.lookup x=some c
 cab:∀x c,X.fn x=true->X.env.cells.lookup x=some c->X.s₀.heap.objs.size<=c
 hd:X.calm=true->X.A.handled=none
 frames:X.A.frames=some X.stack
 stk:X.stack=X.outer\/(X.stack=X.env::X.outer/\X.env.frame=some X.env.locals)exf:∀b∈X.ex,b≠X.env.locals/\∀x c,X.env.cells.lookup x=some c->c≠b
 bs:∀b o,X.base.get? b=some o->X.s₀.heap.get? b=some o/\X.H₀ b=none
 bsz:X.base.objs.size<=X.s₀.heap.objs.size
 noex:∀b o,X.base.get? b=some o->b∉X.ex
 exfs:∀b∈X.ex,b∉X.fs
 funs:X.s₀.heap.FunFrames X.base X.outer
 frf:∀b∈X.fs,X.H₀ b=none
structure aN(X:Cx)(pins:OH)(σ:List (Option V))(H:Hp)(s:Shared):Prop where
 ok:X.Ok
 os:s.os=X.s₀.os
 bare:AllBare s.gens
 base:Un X.fs X.ex X.H₀ H X.s₀.heap s.heap
 loc:∃m,s.heap.Ns X.env.locals m/\∀(i:Nat)(x:Str)(v:V),X.N[i]?=some x->σ[i]?=some (some v)->LZ X.env.scope x->∃u,a0 v u/\MC X.env s.heap m x u
 cell:∀x c,X.env.cells.lookup x=some c->∃v,s.heap.IsCell c v
 free:H X.env.locals=none
 freeC:∀x c,X.env.cells.lookup x=some c->H c=none
 pin:∀p∈X.pn++pins,s.heap.get? p.1=some p.2/\H p.1=none/\p.1≠X.env.locals/\p.1∉X.fs/\∀v,p.2.data≠.cell v
 hok:lG X.prog X.w H s.heap
 len:σ.length=X.N.length
section
variable{X:Cx}{f:OH}{g:List (Option V)}{H B:Hp}{s:Shared}{h':Heap}
def Cx.Ok.nofr(ok:X.Ok)(e:X.base.get? b=some o):b∉X.fs:=λa=>by have:=(ok.funs.mem a).1;rw[e]at this;cases this
theorem aN.bs(I:aN X f g H s):∀b o,X.base.get? b=some o->s.heap.get? b=some o/\H b=none:=λb o e=>{I.base.keep b o (I.ok.bs b o e).1 (I.ok.bs b o e).2 (I.ok.nofr e) (I.ok.noex b o e),I.base.free b o (I.ok.bs b o e).1 (I.ok.bs b o e).2 (I.ok.noex b o e)}
def aN.bk(I:aN X f g H s):∀b o,X.base.get? b=some o->s.heap.get? b=some o:=λb o e=>(I.bs b o e).1
theorem aN.mod(I:aN X f g H s):LP X.K X.mg X.base:=I.ok.mod
def aN.kIn(I:aN X f g H s):X.K.In s.heap:=I.ok.mod.kin.keeps I.bk
def aN.fr(I:aN X f g H s):∃m,Fr X.base X.env.locals s.heap m:=let⟨m,hn,_⟩:=I.loc
 {m,hn,I.bk,lm I.ok.bsz I.ok.above}
theorem aN.lt(I:aN X f g H s):X.env.locals<s.heap.objs.size:=let⟨_,hn,_⟩:=I.loc;hn.lt
def aN.sz(I:aN X f g H s):X.s₀.heap.objs.size<=s.heap.objs.size:=lm I.ok.above (z4 I.lt)
def aN.nofs(I:aN X f g H s)(h:s.heap.objs.size<=a):a∉X.fs:=λb=>by obtain⟨_,o,c,_⟩:=I.ok.funs.mem b;show absurd (n7 (j2 c) (lm I.sz h)) (rV _)
def aN.cne(I:aN X f g H s):∀x c,X.env.cells.lookup x=some c->c≠X.env.locals:=λx c e z=>by obtain⟨v,o,d,hd⟩:=I.cell x c e;obtain⟨m,⟨h,i,j,a,b,_⟩,_⟩:=I.loc;rw[z,a]at d;cases d;rw[b]at hd;cases hd
theorem aN.funs(I:aN X f g H s):s.heap.FunFrames X.base X.outer:=by
 have all:∀(l:List Env),(∀b∈jU l,b∈X.fs)->X.s₀.heap.FunFrames X.base l->s.heap.FunFrames X.base l:=by
  intro l
  induction l with|nil=>intro _ _;trivial|cons env r i=>intro h j;obtain⟨k,⟨L,o,a,hn,m,hd⟩,n⟩:=j;have c:L∈X.fs:=h L (by unfold jU;rw[t8,a];show mo);obtain⟨sl,e⟩:=I.base.slot L o m (I.ok.frf L c) c λz=>I.ok.exfs L z c;show{k,{L,_,a,hn,e,hd},i (λb d=>h b (by unfold jU;rw[t8,a];show j_ _ d)) n}
 show all X.outer (λ_ d=>d) I.ok.funs
theorem aN.stack(I:aN X f g H s):s.heap.FunFrames X.base X.stack:=by
 rcases I.ok.stk with e|⟨e,a⟩
 ·rw[e];show I.funs
 ·rw[e];obtain⟨m,hn,_⟩:=I.loc;show .cons (by rw[I.ok.kind];decide) a hn ?_ I.funs;show Heap.get?_none_of_le (lm I.ok.bsz I.ok.above)
def aN.stkSub(I:aN X f g H s):∀b∈jU X.stack,b∈X.env.locals::X.fs:=λb a=>by
 rcases I.ok.stk with e|⟨e,c⟩
 ·rw[e]at a;show j_ _ a
 ·rw[e]at a;unfold jU at a;rw[t8,c]at a;show a
def aN.stkFree(I:aN X f g H s):∀b∈jU X.stack,H b=none:=λb a=>by
 rcases so.mp (I.stkSub b a)with e|a
 ·rw[e];show I.free
 ·obtain⟨_,o,c,_⟩:=I.ok.funs.mem a;show I.base.free b o c (I.ok.frf b a) λz=>I.ok.exfs b z a
def aN.step{g':Array GenState}{P:Nat}{d':Drawn}{ch:OP}(I:aN X f g H s)(h:∀b∈ch,(b∈X.ex\/X.s₀.heap.objs.size<=b)/\b≠X.env.locals/\(∀x c,X.env.cells.lookup x=some c->c≠b)/\∀p∈X.pn++f,p.1≠b)(keep:∀b o,b≠X.env.locals->b∉X.fs->b∉ch->s.heap.get? b=some o->H b=none->h'.get? b=some o)(slot:∀b o,b≠X.env.locals->b∈X.fs->b∉ch->s.heap.get? b=some o->H b=none->∃sl,h'.get? b=some {o with slots:=sl})(free:∀b o,b∉ch->s.heap.get? b=some o->H b=none->B b=none)(there:∀b o,b∉ch->s.heap.get? b=some o->∃F,h'.get? b=some F)(tups:∀b C,H b=some (.tup C)->B b=some (.tup C))(frzs:∀b o u,H b=some (.frz o u)->B b=some (.frz o u))(tbls:∀b L,H b=some (.tbl L)->∃G,B b=some (.tbl (L++G)))(ns:∀m,s.heap.Ns X.env.locals m->h'.Ns X.env.locals m)(hok:lG X.prog X.w B h')(hg:AllBare g'):aN X f g B {s with heap:=h',gens:=g',drawn:=d',toks:=P}:=by
 have J:∀b o,X.s₀.heap.get? b=some o->b≠X.env.locals:=λb o e=>m3 (n7 (j2 e) I.ok.above);have y:∀b o,X.s₀.heap.get? b=some o->b∉X.ex->b∉ch:=λb o e a D=>by
  rcases(h b D).1 with z|z
  ·show a z
  ·show absurd (n7 (j2 e) z) (rV _)
 have j:∀x c,X.env.cells.lookup x=some c->∀v,s.heap.IsCell c v->h'.IsCell c v:=λx c e v⟨o,E,hd⟩=>by
  have t:c∉ch:=λz=>(h c z).2.2.1 x c e ()
  by_cases hc:c∈X.fs
  ·obtain⟨sl,q⟩:=slot c o (I.cne x c e) hc t E (I.freeC x c e);show{_,q,hd}
  ·show{o,keep c o (I.cne x c e) hc t E (I.freeC x c e),hd}
 show{I.ok,I.os,hg,{λb o e n D a=>?_,λb o e n D a=>?_,λb o e n a=>?_,λb o e a=>?_,λb C e=>tups b C (I.base.tups b C e),λb o C e=>frzs b o C (I.base.frzs b o C e),λb L e=>?_},?_,λx c e=>?_,?_,λx c e=>?_,λp N=>?_,hok,I.len}
 ·show keep b o (J b o e) D (y b o e a) (I.base.keep b o e n D a) (I.base.free b o e n a)
 ·obtain⟨sl,A⟩:=I.base.slot b o e n D a;obtain⟨M,K⟩:=slot b _ (J b o e) D (y b o e a) A (I.base.free b o e n a);show(M,K,)
 ·obtain⟨F,A⟩:=I.base.there b o e a;show free b F (y b o e a) A (I.base.free b o e n a)
 ·obtain⟨F,A⟩:=I.base.there b o e a;show there b F (y b o e a) A
 ·obtain⟨O,A⟩:=I.base.tbls b L e;obtain⟨Q,K⟩:=tbls b _ A;show{O++Q,by rw[K,Array.append_assoc]}
 ·obtain⟨m,hn,R⟩:=I.loc;show{m,ns m hn,λi x v A K S=>?_};obtain⟨u,r,l⟩:=R i x v A K S;show{u,r,?_};rcases l with l|⟨k,c,e,z⟩
  ·show .inl l
  ·show .inr {k,c,e,j x c e _ z}
 ·obtain⟨v,z⟩:=I.cell x c e;show{v,j x c e v z}
 ·obtain⟨m,⟨o,_,_,E,_⟩,_⟩:=I.loc;show free _ o (λz=>(h _ z).2.1 ()) E I.free
 ·obtain⟨v,o,E,hd⟩:=I.cell x c e;show free c o (λz=>(h c z).2.2.1 x c e ()) E (I.freeC x c e)
 ·obtain⟨e,n,ne,nf,d⟩:=I.pin p N;have t:p.1∉ch:=λz=>(h p.1 z).2.2.2 p N ();show{keep p.1 p.2 ne nf t e n,free p.1 p.2 t e n,ne,nf,d}
def aN.un{t':Nat}(I:aN X f g H s)(u:Un X.fs [] H B s.heap h')(hok:lG X.prog X.w B h'):aN X f g B {s with heap:=h',toks:=t'}:=by obtain⟨m,⟨o,l,p,i,r⟩,_⟩:=id I.loc;obtain⟨sl,j⟩:=u.any i I.free (by simp);show I.step (g':=s.gens) (d':=s.drawn) (ch:=[]) (λ_ z=>nomatch z) (λb o _ c _ e n=>u.keep b o e n c (by simp)) (λb o _ c _ e n=>u.slot b o e n c (by simp)) (λb o _ e n=>u.free b o e n (by simp)) (λb o _ e=>u.there b o e (by simp)) u.tups u.frzs u.tbls (λx hm=>by obtain⟨y,d,h,a,k⟩:=hm;rw[i]at a;cases a;show{_,d,h,j,k}) hok I.bare
def aN.call{g':Array GenState}{t':Nat}{d':Drawn}{ch:OP}(I:aN X f g H s)(u:Un (jU X.stack) ch H B s.heap h')(hok:lG X.prog X.w B h')(hg:AllBare g')(a:∀b∈ch,(b∈X.ex\/X.s₀.heap.objs.size<=b)/\b≠X.env.locals/\(∀x c,X.env.cells.lookup x=some c->c≠b)/\∀p∈X.pn++f,p.1≠b):aN X f g B {s with heap:=h',gens:=g',drawn:=d',toks:=t'}:=by obtain⟨m,⟨o,t,v,k,r⟩,_⟩:=id I.loc;obtain⟨sl,h⟩:=u.any k I.free λz=>(a _ z).2.1 ();show I.step (ch:=ch) a (λb o h l hc e n=>u.keep b o e n (λz=>(so.mp (I.stkSub b z)).elim h l) hc) (λb o _ _ hc e n=>u.any e n hc) (λb o hc e n=>u.free b o e n hc) (λb o hc e=>u.there b o e hc) u.tups u.frzs u.tbls (λy hm=>by obtain⟨A,i,j,d,q⟩:=hm;rw[k]at d;cases d;show{_,i,j,h,q}) hok hg
def aN.turned{t':Nat}{it:Addr}(I:aN X f g H s)(k:∀b o,b≠it->s.heap.get? b=some o->h'.get? b=some o)(hn:H it=none)(h:it≠X.env.locals)(h1:it∈X.ex\/X.s₀.heap.objs.size<=it)(h2:∀x c,X.env.cells.lookup x=some c->c≠it)(h3:∀p∈X.pn++f,p.1≠it):aN X f g H {s with heap:=h',toks:=t'}:=by
 have a:∀b u,H b=some u->b≠it:=λb u e z=>by rw[z,hn]at e;cases e
 show I.step (g':=s.gens) (d':=s.drawn) (ch:=[it]) (λb d=>?_) (λb o _ _ hc e _=>k b o (λz=>hc (by simp[z])) e) (λb o _ _ hc e _=>{o.slots,k b o (λz=>hc (by simp[z])) e}) (λ_ _ _ _ n=>n) (λb o hc e=>{o,k b o (λz=>hc (by simp[z])) e}) (λ_ _ e=>e) (λ_ _ _ e=>e) (λb A e=>{#[],by rw[e];simp}) (λm hm=>?_) (λb u e=>?_) I.bare
 ·have e:b=it:=by simpa using d
  subst e;show(h1,h,h2,h3,)
 ·obtain⟨o,i,j,l,r⟩:=hm;show{o,i,j,k _ o (o8 h) l,r}
 ·show(I.hok b u e).stay (λc v hc q=>k c v ?_ q) (λ_ q=>q) λ_ _ q=>q;rcases hc with z|z
  ·rw[z];show a b u e
  ·show a c _ z
def aN.tok(I:aN X f g H s)(t:Nat):aN X f g H {s with toks:=t}:=I.un (h':=s.heap) (t':=t) Un.refl I.hok
theorem aN.kept(I:aN X f g H s)(k:∀b u,s.heap.get? b=some u->h'.get? b=some u):aN X f g H {s with heap:=h',toks:=t'}:=I.un (Un.kept k) (I.hok.kept k)
theorem aN.laid(I:aN X f g H s)(k:∀b u,s.heap.get? b=some u->h'.get? b=some u)(c:s.heap.objs.size<=a)(new:c8 X.prog X.w (aH H a o) h' a o):aN X f g (aH H a o) {s with heap:=h',toks:=t'}:=I.un (Un.laid k c (I.hok.fresh c)) (I.hok.laid k c new)
theorem aN.write(I:aN X f g H s)(c:LO (H x))(h:e=x\/H e=some (.own x))(k:∀b u,b≠e->s.heap.get? b=some u->h'.get? b=some u)(a:∃u,h'.get? e=some u)(new:c8 X.prog X.w (aH H x o) h' x o):aN X f g (aH H x o) {s with heap:=h',toks:=t'}:=I.un (Un.write c h k a) (I.hok.write c h k a new)
def aN.weak(I:aN X f g H s)(c:a.length=g.length)(w:∀(i:Nat)v,a[i]?=some (some v)->g[i]?=some (some v)):aN X f a H s:={I.ok,I.os,I.bare,I.base,let⟨m,hn,b⟩:=I.loc;{m,hn,λi x v d e h=>b i x v d (w i v e) h},I.cell,I.free,I.freeC,I.pin,I.hok,c.trans I.len}
def aN.pins_of(I:aN X f g H s)(h:∀p∈a,s.heap.get? p.1=some p.2/\H p.1=none/\p.1≠X.env.locals/\p.1∉X.fs/\∀v,p.2.data≠.cell v):aN X a g H s:={I.ok,I.os,I.bare,I.base,I.loc,I.cell,I.free,I.freeC,λp b=>(List.mem_append.mp b).elim (λz=>I.pin p (ol _ z)) (h p),I.hok,I.len}
def yy{N:OL}(c:N.Nodup){i j:Nat}{x:Str}(a:N[i]?=some x)(b:N[j]?=some x):i=j:=by obtain⟨h1,d⟩:=d_.mp a;obtain⟨h2,e⟩:=d_.mp b;show(List.getElem_inj c).mp (d.trans e.symm)
def vx{M:Model}{A:Around}{E:OG}{i:Nat}{x:Str}{v:V}{u:Value}{Q:Unit->Shared->Prop}(I:aN X f g H s)(hN:X.N.Nodup)(hi:X.N[i]?=some x)(D:Ki X.env.scope x)(r:a0 v u)(h:∀s',aN X f (g.set i (some v)) H s'->(∃a,Heap.SameBut a s.heap s'.heap/\(a=X.env.locals\/X.env.cells.lookup x=some a))->Q Unit.unit s')(hf:X.fn x=true\/X.env.scope.names.lookup x=some .local:=by first|show .inl ()|show .inr ()|assumption):wpAny M A (storeName X.env x u) Q E s:=by
 obtain⟨m,hn,hl⟩:=id I.loc;have R:(X.env.scope.kind==.class||(X.env.scope.kind==.module&&X.env.locals !=X.env.globals))=false:=by rw[I.ok.kind];rfl
 have J:i<g.length:=by rw[I.len];show(d_.mp hi).1
 have cne:=I.cne;have t:∀{a:Addr}{h':Heap},(∃o,s.heap.get? a=some o/\H a=none)->Heap.SameBut a s.heap h'->lG X.prog X.w H h':=λ{a h'}ha l b ob e=>by
  obtain⟨_,_,F⟩:=ha;show(I.hok b ob e).stay (λc Y hc q=>(l.2 c ?_).trans q) (λ_ q=>q) λ_ _ q=>q;rintro rfl;rcases hc with rfl|hc
  ·rw[F]at e;cases e
  ·rw[F]at hc;cases hc
 rcases D with K|K
 ·show wpAny_storeName_local K hn (λh' aa l=>?_) R;obtain⟨oL,_,_,ac,_⟩:=id hn;show h _ {I.ok,I.os,I.bare,{λb o e n L D=>?_,λb o e n L D=>?_,I.base.free,λb o e D=>?_,I.base.tups,I.base.frzs,I.base.tbls},{_,aa,λj y v' C G e3=>?_},λy c e=>?_,I.free,I.freeC,λp hp=>?_,t (oL,ac,I.free,) l,by simpa using I.len} {_,l,.inl ()}
  ·show(l.2 b (m3 (n7 (j2 e) I.ok.above))).trans (I.base.keep b o e n L D)
  ·obtain⟨sl,C⟩:=I.base.slot b o e n L D;show{sl,(l.2 b (m3 (n7 (j2 e) I.ok.above))).trans C}
  ·obtain⟨o',C⟩:=I.base.there b o e D;show{o',(l.2 b (m3 (n7 (j2 e) I.ok.above))).trans C}
  ·by_cases O:j=i
   ·subst O;rw[hi]at C;cases C;rw[w_ J]at G;cases G;show{u,r,.inl {K,by simp}}
   ·rw[oD (o8 O)]at G;obtain⟨u',r',q⟩:=hl j y v' C G e3;show{u',r',?_};rcases q with⟨k,e⟩|⟨k,c,e,z⟩
    ·show .inl {k,?_};have:y≠x:=λe=>O (yy hN C (e▸hi));simp[this,e]
    ·show .inr {k,c,e,z.sameBut l (cne y c e)}
  ·obtain⟨Y,z⟩:=I.cell y c e;show{Y,z.sameBut l (cne y c e)}
  ·obtain⟨e,n,ne,nf,d⟩:=I.pin p hp;show{(l.2 p.1 ne).trans e,n,ne,nf,d}
 ·have P:X.fn x=true:=by
   rcases hf with z|z
   ·show z
   ·rw[z]at K;cases K
  obtain⟨c,hc⟩:=I.ok.has x (.inl K);obtain⟨Y,z⟩:=I.cell x c hc;show wpAny_storeName_cell I.ok.kind K hc z (λh' S l=>?_);obtain⟨oc,T,U⟩:=id z;show h {s with heap:=h'} {I.ok,I.os,I.bare,{λb o e n L D=>?_,λb o e n L D=>?_,I.base.free,λb o e D=>?_,I.base.tups,I.base.frzs,I.base.tbls},{m,hn.sameBut l (o8 (cne x c hc)),λj y v' C G e3=>?_},λy Z e=>?_,I.free,I.freeC,λp hp=>?_,t {oc,T,I.freeC x c hc} l,by simpa using I.len} {c,l,.inr hc}
  ·show(l.2 b (m3 (n7 (j2 e) (I.ok.cab x c P hc)))).trans (I.base.keep b o e n L D)
  ·obtain⟨sl,C⟩:=I.base.slot b o e n L D;show{sl,(l.2 b (m3 (n7 (j2 e) (I.ok.cab x c P hc)))).trans C}
  ·obtain⟨o',C⟩:=I.base.there b o e D;show{o',(l.2 b (m3 (n7 (j2 e) (I.ok.cab x c P hc)))).trans C}
  ·by_cases O:j=i
   ·subst O;rw[hi]at C;cases C;rw[w_ J]at G;cases G;show{u,r,.inr {.inl K,c,hc,S}}
   ·rw[oD (o8 O)]at G;obtain⟨u',r',q⟩:=hl j y v' C G e3;show{u',r',?_};rcases q with q|⟨k,Z,e,z'⟩
    ·show .inl q
    ·show .inr {k,Z,e,z'.sameBut l ?_};rintro rfl;show O (yy hN C (I.ok.inj _ _ _ e hc▸hi))
  ·by_cases W:Z=c
   ·subst W;show{_,S}
   ·obtain⟨w2,z2⟩:=I.cell y Z e;show{w2,z2.sameBut l W}
  ·obtain⟨e,n,ne,nf,d⟩:=I.pin p hp;show{(l.2 p.1 ?_).trans e,n,ne,nf,d};intro q;rw[q,T]at e;have q':oc=p.2:=mu e;show d Y (by rw[<-q'];show U)
def sQ(I:aN X f g H s)(c:X.N.Nodup)(hi:X.N[i]?=some x)(e:Ki X.env.scope x)(r:a0 v u)(h:∀a,aN X f (g.set i (some v)) H a->Q Unit.unit a)(j:X.fn x=true\/X.env.scope.names.lookup x=some .local:=by first|show .inl ()|show .inr ()|assumption):wpAny M A (storeName X.env x u) Q E s:=vx I c hi e r (λa b _=>h a b) j
def aN.call'(I:aN X f g H s)(j:s'.os=s.os)(u:Un (jU X.stack) ch H B s.heap s'.heap)(hok:lG X.prog X.w B s'.heap)(hg:AllBare s'.gens)(a:∀b∈ch,(b∈X.ex\/X.s₀.heap.objs.size<=b)/\b≠X.env.locals/\(∀x c,X.env.cells.lookup x=some c->c≠b)/\∀p∈X.pn++f,p.1≠b):aN X f g B s':=by obtain⟨h',d,h,i,k⟩:=s';have e:k=s.os:=j;subst e;show I.call (g':=d) (t':=i) (d':=h) u hok hg a
end
abbrev XK:=Value->Option Addr->Hp->Prop
abbrev St:=List (Option V)
abbrev VK:=V->Hp->Prop
abbrev TE:=St->Hp->VK->Prop
abbrev TT:=St->Hp->(Bool->Hp->Prop)->Prop
abbrev TA:=St->Hp->(List V->Hp->Prop)->Prop
structure jl where
 nx:St->Hp->Prop
 rt:VK
 bk:St->Hp->Prop:=λ_ _=>False
 ct:St->Hp->Prop:=λ_ _=>False
abbrev TS:=jl->St->Hp->Prop
def EP(X:Cx)(a:OH)(c:St)(Q:VK)(u:Value)(e:Shared):Prop:=∃v b,aN X a c b e/\a0 v u/\Q v b
def TP(X:Cx)(a:OH)(e:St)(Q:Bool->Hp->Prop)(b:Bool)(f:Shared):Prop:=∃c,aN X a e c f/\Q b c
def AP(X:Cx)(a:OH)(e:St)(Q:List V->Hp->Prop)(f:OJ)(g:Shared):Prop:=∃b c,aN X a e c g/\be b f/\Q b c
def SP(X:Cx)(c:OH)(D:jl)(f:Flow)(e:Shared):Prop:=match f with|.next=>∃a b,aN X c a b e/\D.nx a b|.brk=>∃a b,aN X c a b e/\D.bk a b|.cont=>∃a b,aN X c a b e/\D.ct a b|.ret u=>∃v a b,aN X c a b e/\a0 v u/\D.rt v b
def PE(X:Cx)(e:Expr)(t:TE):Prop:=∀(a:OH)(s:Shared)(b:St)(H:Hp)(Q:VK),aN X a b H s->t b H Q->wpAny (model X.prog X.w) X.A (eval e X.env) (EP X a b Q) X.xe s
def PT(X:Cx)(e:Expr)(t:TT):Prop:=∀(a:OH)(s:Shared)(b:St)(H:Hp)(Q:Bool->Hp->Prop),aN X a b H s->t b H Q->wpAny (model X.prog X.w) X.A (isTrue e X.env (eval e X.env)) (TP X a b Q) X.xe s
def PW(X:Cx)(e:Expr)(t:TT):Prop:=∀(b:Sem Value)(a:OH)(s:Shared)(c:St)(H:Hp)(Q:Bool->Hp->Prop),aN X a c H s->t c H Q->wpAny (model X.prog X.w) X.A (isTrue e X.env b) (TP X a c Q) X.xe s
def PW.pt(h:PW X e t):PT X e t:=h _
def PA(X:Cx)(e:OM)(t:TA):Prop:=∀(b:Pos)(a:OH)(s:Shared)(c:St)(H:Hp)(Q:List V->Hp->Prop),aN X a c H s->t c H Q->wpAny (model X.prog X.w) X.A (spliced (backTo b (starEach e X.env))) (AP X a c Q) X.xe s
def PS(X:Cx)(st:Stmt)(t:TS):Prop:=∀(a:OH)(s:Shared)(b:St)(H:Hp)(D:jl),aN X a b H s->t D b H->wpAny (model X.prog X.w) X.A (exec st X.env) (SP X a D) X.xe s
def vi(X:Cx)(st:List Stmt)(t:TS):Prop:=∀(a:OH)(s:Shared)(b:St)(H:Hp)(D:jl),aN X a b H s->t D b H->wpAny (model X.prog X.w) X.A (execs st X.env) (SP X a D) X.xe s
def cw(h:wpAny M A t Q E s)(c:∀a s,Q a s->e a s):wpAny M A t e E s:=wpAny_mono h c λ_ _ x=>x
section
variable{X:Cx}
def FI(i:Nat):TE:=λa H Q=>∃v,a[i]?=some (some v)/\Q v H
def tC(v:V):TE:=λ_ H Q=>Q v H
def Jh(j:X.N[i]?=some x)(n:LZ X.env.scope x)(hd:(x==("__debug__":Str))=false:=by decide)(g:(x==("__classdict__":Str))=false:=by decide):PE X (.Name x f) (FI i):=by
 intro d s k H Q I h;obtain⟨v,e,h⟩:=h;obtain⟨m,hn,o⟩:=I.loc;obtain⟨u,r,l⟩:=o i x v j e n;have fin:EP X d k Q u s:=(v,H,I,r,h,);rcases l with⟨b,hm⟩|⟨b,c,hc,a⟩
 ·show wpAny_Name (wpAny_loadName_local I.ok.kind b hn hm fin) hd
 ·rcases b with b|b
  ·show wpAny_Name (wpAny_loadName_cell I.ok.kind b hc a fin) hd
  ·show wpAny_Name (wpAny_loadName_free I.ok.kind b hc a fin g) hd
def af{i j f}:PE X (.Constant (.int i) j f) (tC (.int i)):=λ_ _ _ H _ I h=>wpAny_Constant_int {.int i,H,I.tok _,{_,()},h}
def dU{b j f}:PE X (.Constant (.bool b) j f) (tC (.bl b)):=λ_ _ _ H _ I h=>Constant_bool {.bl b,H,I,(),h}
def jN{j f}:PE X (.Constant .none j f) (tC .non):=λ_ _ _ H _ I h=>Constant_none {.non,H,I,(),h}
def av{x j f}:PE X (.Constant (.str x) j f) (tC (.str x)):=λ_ _ _ H _ I h=>Calls.Constant_str {.str x,H,I.tok _,{_,()},h}
def Gl(X:Cx)(x:Str):Prop:=X.env.kindOf x=some .globalImplicit
def pS(I:aN X a c H s)(hg:Gl X x)(hm:X.mg x=some u)(h:Q u s)(hd:(x==("__debug__":Str))=false:=by decide):wpAny (model X.prog X.w) X.A (eval (.Name x f) X.env) Q E s:=Calls.Name_function_global I.ok.kind hg (Calls.loadGlobal_global (by rw[I.ok.glob];show I.mod.glob.keeps I.bk) hm h) hd
def kW(I:aN X a e H s)(hg:Gl X x)(hm:X.mg x=none)(c:bootBuiltins x=some u)(h:Q u s)(hn:x≠"__name__":=by decide)(hd:(x==("__debug__":Str))=false:=by decide):wpAny (model X.prog X.w) X.A (eval (.Name x f) X.env) Q E s:=by obtain⟨b,h1,h2⟩:=I.mod.blt;show Calls.Name_function_global I.ok.kind hg (Calls.loadGlobal_builtin (by rw[I.ok.glob];show I.mod.glob.keeps I.bk) hm (by rw[I.ok.blt];show h1.keeps I.bk) ((h2 x hn).trans c) h) hd
def AO(hg:Gl X x)(hm:X.mg x=some u)(r:a0 v u)(hd:(x==("__debug__":Str))=false:=by decide):PE X (.Name x f) (tC v):=λ_ _ _ H _ I h=>pS I hg hm (v,H,I,r,h,) hd
def GE{x:Str}{v:V}{u:Value}{f:Pos}(hg:Gl X x)(hm:X.mg x=none)(a:bootBuiltins x=some u)(r:a0 v u)(hn:x≠"__name__":=by decide)(hd:(x==("__debug__":Str))=false:=by decide):PE X (.Name x f) (tC v):=λ_ _ _ H _ I h=>kW I hg hm a (v,H,I,r,h,) hn hd
variable{a b:Expr}{g p:TE}{f:Pos}
def PC(X:Cx)(h:CmpOp)(a b:Expr)(t:TE):Prop:=∀(c:OH)(s:Shared)(e:St)(H:Hp)(Q:VK),aN X c e H s->t e H Q->wpAny (model X.prog X.w) X.A (eval a X.env) (λv s₁=>wpAny (model X.prog X.w) X.A (eval b X.env) (λu d=>wpAny (model X.prog X.w) X.A (compareOp h v u) (EP X c e Q) X.xe d) X.xe s₁) X.xe s
def tB(t:TE):TT:=λd H Q=>t d H λx e=>∃c,x=.bl c/\Q c e
def i7(h:PC X i a b t)(h1:behindInMarks i b=false:=by first|show nobehind _ (by decide) (by decide)|rfl):PT X (.Compare a [i] [b] f) (tB t):=by intro e s j H Q I k;show wpAny_isTrue_Compare1 (cw (h e s j H _ I k) λv o h1=>cw h1 λu r h2=>cw h2 λc w⟨x,l,I1,m,n⟩=>?_) h1;obtain⟨d,rfl,q⟩:=n;cases m;show sT (l,I1,q,)
variable{n o:TT}{qp:OM}
def Mb(t u:TT):TT:=λd H Q=>t d H λc e=>if c=true then u d e Q else Q false e
def tOr(t u:TT):TT:=λd H Q=>t d H λc e=>if c=true then Q true e else u d e Q
def L8(t:TT):TT:=λd H Q=>t d H λc e=>Q (!c) e
def iH(i:PT X a n):PW X (.BoolOp .And [a] f) n:=by intro k d s j H Q I h;show isTrue_and (cw (i d s j H Q I h) λc l e=>?_);cases c with|true=>show isTrue_and_nil e|false=>show e
def dP(i:PT X a n):PW X (.BoolOp .Or [a] f) n:=by intro k d s j H Q I h;show isTrue_or (cw (i d s j H Q I h) λc l e=>?_);cases c with|false=>show isTrue_or_nil e|true=>show e
def jM(l:PT X a n)(m:PW X (.BoolOp .And (b::qp) f) o):PW X (.BoolOp .And (a::b::qp) f) (Mb n o):=by intro k d s e H Q I h;show isTrue_and (cw (l d s e H _ I h) λc q r=>?_);obtain⟨i,I1,j⟩:=r;cases c with|true=>show m k d q e i Q I1 j|false=>show(i,I1,j,)
def fb(l:PT X a n)(m:PW X (.BoolOp .Or (b::qp) f) o):PW X (.BoolOp .Or (a::b::qp) f) (tOr n o):=by intro k d s e H Q I h;show isTrue_or (cw (l d s e H _ I h) λc q r=>?_);obtain⟨i,I1,j⟩:=r;cases c with|true=>show(i,I1,j,)|false=>show m k d q e i Q I1 j
def cx(e:PT X a n):PT X (.UnaryOp .Not a f) (L8 n):=by intro d s i H Q I h;show isTrue_not (e d s i H (λc j=>Q (!c) j) I h)
def KL(g p:TE):TE:=λd H Q=>g d H λx e=>∃c,x=.bl c/\if c=true then p d e Q else Q (.bl false) e
def L7(g p:TE):TE:=λd H Q=>g d H λx e=>∃c,x=.bl c/\if c=true then Q (.bl true) e else p d e Q
def KD(g:TE):TE:=λd H Q=>g d H λx e=>∃c,x=.bl c/\Q (.bl (!c)) e
def cU{e}(h:PE X a t):PE X (.BoolOp e [a] f) t:=λc s d H Q I i=>BoolOp_one (h c s d H Q I i)
def cy(l:PE X a g)(m:PE X (.BoolOp .And (b::qp) f) p):PE X (.BoolOp .And (a::b::qp) f) (KL g p):=by intro d s i H Q I h;show BoolOp_and (cw (l d s i H _ I h) λv k q=>?_);obtain⟨x,j,I1,r,e⟩:=q;obtain⟨c,rfl,e⟩:=e;cases r;show sT ?_;cases c with|true=>show m d k i j Q I1 e|false=>show{.bl false,j,I1,(),e}
def HP(l:PE X a g)(m:PE X (.BoolOp .Or (b::qp) f) p):PE X (.BoolOp .Or (a::b::qp) f) (L7 g p):=by intro d s i H Q I h;show BoolOp_or (cw (l d s i H _ I h) λv k q=>?_);obtain⟨x,j,I1,r,e⟩:=q;obtain⟨c,rfl,e⟩:=e;cases r;show sT ?_;cases c with|false=>show m d k i j Q I1 e|true=>show{.bl true,j,I1,(),e}
def wM(i:PE X a g):PE X (.UnaryOp .Not a f) (KD g):=by intro d s j H Q I h;show UnaryOp_ (cw (i d s j H _ I h) λv q k=>?_);obtain⟨x,l,I1,m,e⟩:=k;obtain⟨c,rfl,e⟩:=e;cases m;show not_of (sT {.bl (!c),l,I1,(),e})
end
def aW(K:OF)(H:Hp)(a:Addr)(c:List V):Prop:=Rd H a (.lst c)\/∃(o:Obj)(b:ON)(n:Nat),K.lookup a=some o/\o.cls=.type "list"/\o.dict=none/\o.data=.seq b n/\b.size<=sizeLine/\be c b.toList
def aS(K:OF)(H:Hp)(a:Addr)(c:List V):Prop:=Rd H a (.tup c)\/∃(o:Obj)(b:ON)(n:Nat),K.lookup a=some o/\o.cls=.type "tuple"/\o.data=.seq b n/\b.size<=sizeLine/\be c b.toList
noncomputable def Mu:Value->Option V|.none=>some .non|.bool b=>some (.bl b)|.int i _=>some (.int i)|.str x _=>some (.str x)|.bytes b _=>some (.byt b)|.float b _=>some (.flt b)|.ref a=>some (.ref a)|.type n=>some (.ty n)|_=>none
def a0.abs(r:a0 x u):Mu u=some x:=by cases x with|non=>cases r;rfl|bl _=>cases r;rfl|int _=>obtain⟨t,rfl⟩:=r;rfl|str _=>obtain⟨t,rfl⟩:=r;rfl|byt _=>obtain⟨t,rfl⟩:=r;rfl|flt _=>obtain⟨t,rfl⟩:=r;rfl|ref _=>cases r;rfl|ty _=>cases r;rfl
def a0.inj(r:a0 x u)(q:a0 y u):x=y:=mu (r.abs.symm.trans q.abs)
theorem be.inj:∀{a c:List V}{e:OJ},be a e->be c e->a=c|_,_,_,.nil,.nil=>()|_,_,_,.cons r t,.cons b d=>by rw[r.inj b,be.inj t d]
section
variable{X:Cx}{c:OH}{g:St}{H:Hp}{s:Shared}{a:Addr}{xs f:List V}
def aW.of{K:OF}(h:H a=some (.lst xs)):aW K H a xs:=.inl (.inl h)
def aS.of{K:OF}(h:H a=some (.tup xs)):aS K H a xs:=.inl (.inl h)
def aN.list(I:aN X c g H s)(h:aW X.K H a xs):∃i:List Value,be xs i/\PlainL s.heap a i.toArray/\xs.length<=sizeLine:=by
 rcases h with h|⟨o,i,n,b,hc,hd,d,j,r⟩
 ·obtain⟨z,i,n,r,e⟩:=h.ok I.hok;show{i,r,{_,n,e,(),(),()},z}
 ·show{i.toList,r,{o,n,I.kIn a o b,hc,hd,by simpa using d},?_};have e:=r.length;simp only[nB]at e;lia
def aN.tuple(I:aN X c g H s)(h:aS X.K H a xs):∃i:List Value,be xs i/\IsTup s.heap a i.toArray/\xs.length<=sizeLine:=by
 rcases h with h|⟨o,i,n,b,hc,d,j,r⟩
 ·obtain⟨z,i,r,p⟩:=h.ok I.hok;show(i,r,p,z,)
 ·show{i.toList,r,{o,I.kIn a o b,hc,n,by simpa using d},?_};have e:=r.length;simp only[nB]at e;lia
def aN.list_inj(I:aN X c g H s)(h:aW X.K H a xs)(h':aW X.K H a f):xs=f:=by
 obtain⟨i,r,⟨o,n,e,_,_,d⟩,_⟩:=I.list h;obtain⟨b,l,⟨p,q,j,_,_,k⟩,_⟩:=I.list h';rw[e]at j;cases j;rw[d]at k;injection k with m _;have:i=b:=by simpa using r_ Array.toList m
 subst this;show r.inj l
def aN.tuple_inj(I:aN X c g H s)(h:aS X.K H a xs)(h':aS X.K H a f):xs=f:=by
 obtain⟨i,r,⟨o,e,_,n,d⟩,_⟩:=I.tuple h;obtain⟨b,l,⟨p,j,_,q,k⟩,_⟩:=I.tuple h';rw[e]at j;cases j;rw[d]at k;injection k with m _;have:i=b:=by simpa using r_ Array.toList m
 subst this;show r.inj l
end
abbrev Cx.wish(X:Cx)(E:OG):Cx:={X with xe:=E}
abbrev Cx.nox(X:Cx):Cx:=X.wish λ_ _=>False
theorem Cx.Ok.wish{X:Cx}(ok:X.Ok)(E:OG):(X.wish E).Ok:=(ok.mod,ok.kind,ok.glob,ok.blt,ok.above,ok.inj,ok.has,ok.cab,ok.hd,ok.frames,ok.stk,ok.exf,ok.bs,ok.bsz,ok.noex,ok.exfs,ok.funs,ok.frf,)
def Cx.Ok.unwish{X:Cx}{E:OG}(ok:(X.wish E).Ok):X.Ok:=(ok.mod,ok.kind,ok.glob,ok.blt,ok.above,ok.inj,ok.has,ok.cab,ok.hd,ok.frames,ok.stk,ok.exf,ok.bs,ok.bsz,ok.noex,ok.exfs,ok.funs,ok.frf,)
section
variable{X:Cx}{a:OH}{c:St}{H:Hp}{s:Shared}{E:OG}
theorem aN.wish(I:aN X a c H s)(E:OG):aN (X.wish E) a c H s:={I.ok.wish E,I.os,I.bare,I.base,I.loc,I.cell,I.free,I.freeC,I.pin,I.hok,I.len}
theorem aN.unwish(I:aN (X.wish E) a c H s):aN X a c H s:=(I.ok.unwish,I.os,I.bare,I.base,I.loc,I.cell,I.free,I.freeC,I.pin,I.hok,I.len,)
theorem SP.unwish(h:SP (X.wish E) a D f e):SP X a D f e:=by cases f with|next=>obtain⟨b,d,I,q⟩:=h;show(b,d,I.unwish,q,)|brk=>obtain⟨b,d,I,q⟩:=h;show(b,d,I.unwish,q,)|cont=>obtain⟨b,d,I,q⟩:=h;show(b,d,I.unwish,q,)|ret u=>obtain⟨v,b,d,I,r,q⟩:=h;show(v,b,d,I.unwish,r,q,)
theorem vi.nox{st:List Stmt}{t:TS}(h:vi X.nox st t):vi X st t:=λa s c H D I b=>wpAny_mono (h a s c H D (I.wish _) b) (λ_ _ q=>q.unwish) λ_ _ z=>False.elim z
end
section
variable{X:Cx}{st:Stmt}{qp:List Stmt}{t u:TS}{e:Expr}{te:TE}{g:Pos}
def xO:TS:=λD a H=>D.nx a H
def rK(t u:TS):TS:=λD a H=>t {D with nx:=u D} a H
def aD:vi X [] xO:=λ_ _ a H _ I h=>No (a,H,I,h,)
def ah(h1:PS X st t)(h2:vi X qp u):vi X (st::qp) (rK t u):=by intro a s c H D I h;show Ou (cw (h1 a s c H {D with nx:=u D} I h) λf d q=>?_);cases f with|next=>obtain⟨b,i,j,q⟩:=q;show h2 a d b i D j q|ret v=>show q|brk=>show q|cont=>show q
def ai(h1:PS X st t):vi X [st] t:=by intro a s b H D I h;show Ou (cw (h1 a s b H D I h) λf c q=>?_);cases f with|next=>show No q|ret v=>show q|brk=>show q|cont=>show q
def aN.quiet(I:aN X a c H s):interactive X.env=false:=by simp[interactive,I.ok.kind]
def KI(te:TE):TS:=λD a H=>te a H λ_ b=>D.nx a b
def aY(c:PE X e te)(f:swapsWith e none g.line X.env=pure false:=by rfl):PS X (.Expr e g) (KI te):=by intro a s b H D I h;show wpAny_Expr_any (cw (c a s b H _ I h) λv j⟨x,d,I1,k,i⟩=>(b,d,I1,i,)) I.quiet f
def KB(te:TE):TS:=λD a H=>te a H D.rt
def az(c:PE X e te):PS X (.Return (some e) g) (KB te):=by intro a s b H D I h;show wpAny_Return_some (cw (c a s b H _ I h) λv k d=>?_);obtain⟨x,f,I1,i,j⟩:=d;show(x,b,f,I1,i,j,)
def Bu(c:TT)(t u:TS):TS:=λD a H=>c a H λb d=>if b=true then t D a d else u D a d
def aK(hc:PT X c tc)(m:vi X a t)(n:vi X b u):PS X (.If c a b g) (Bu tc t u):=by intro f s i H D I h;show wpAny_If (cw (hc f s i H _ I h) λd j o=>?_);obtain⟨k,I1,l⟩:=o;cases d with|true=>show m f j i k D I1 l|false=>show n f j i k D I1 l
def Iu:TS:=λ_ _ _=>False
def gz:PS X st Iu:=λ_ _ _ _ _ _ h=>h.elim
end
abbrev TG:=V->St->Hp->(St->Hp->Prop)->Prop
abbrev Kr:=List V->St->Hp->(St->Hp->Prop)->Prop
def PG(X:Cx)(a:Expr)(t:TG):Prop:=∀(b:OH)(s:Shared)(d:St)(H:Hp)(v:V)(u:Value)(Q:St->Hp->Prop),aN X b d H s->a0 v u->t v d H Q->wpAny (model X.prog X.w) X.A (assign a X.env u) (λ_ f=>∃c e,aN X b c e f/\Q c e) X.xe s
def Ke(X:Cx)(g:OM)(t:Kr):Prop:=∀(a:OH)(s:Shared)(c:St)(H:Hp)(d:List V)(e:OJ)(Q:St->Hp->Prop),aN X a c H s->be d e->t d c H Q->wpAny (model X.prog X.w) X.A (assignInOrder ((assignEach g X.env).map (·.2)) e) (λ_ h=>∃b f,aN X a b f h/\Q b f) X.xe s
abbrev Hw:=V->V->V->Hp->(Hp->Prop)->Prop
def HA(X:Cx)(t:Hw):Prop:=∀(a:OH)(s:Shared)(b:St)(H:Hp)(o i v:V)(c iv u:Value)(Q:Hp->Prop),aN X a b H s->a0 o c->a0 i iv->a0 v u->t o i v H Q->wpAny (model X.prog X.w) X.A (setItem c iv u) (λ_ e=>∃d,aN X a b d e/\Q d) X.xe s
section
variable{X:Cx}{c:Pos}
def io(i:Nat):TG:=λv a H Q=>Q (a.set i (some v)) H
def AN(e:X.N.Nodup)(hi:X.N[i]?=some x)(f:Ki X.env.scope x)(g:X.fn x=true\/X.env.scope.names.lookup x=some .local:=by first|show .inl ()|show .inr ()|assumption):PG X (.Name x c) (io i):=by intro a s d H v u Q I r h;show wpAny_assign_Name (sQ I e hi f r (λj b=>{_,H,b,h}) g)
def JU:Kr:=λa b H Q=>a=[]/\Q b H
def vW(t:TG)(u:Kr):Kr:=λb d H Q=>∃v r,b=v::r/\t v d H λa e=>u r a e Q
def eT:Ke X [] JU:=by intro a s b H d f Q I r h;obtain⟨e,h⟩:=h;subst e;cases r;show assignInOrder_nil (b,H,I,h,)
def bd(h1:PG X e t)(h2:Ke X f u)(g:(assignEach (e::f) X.env).map (·.2)=assign e X.env::(assignEach f X.env).map (·.2):=by rfl):Ke X (e::f) (vW t u):=by intro a s d H o p Q I r h;obtain⟨v,q,i,h⟩:=h;subst i;cases r with|cons r j=>rw[g];show assignInOrder_cons (cw (h1 a s d H _ _ _ I r h) λ_ k l=>?_);obtain⟨b,m,I1,n⟩:=l;show h2 a k b m _ _ Q I1 j n
def Hc(K:OF)(n:Nat)(t:Kr):TG:=λv d H Q=>∃a b,v=.ref a/\aS K H a b/\b.length=n/\t b d H Q
def Jg(hc:X.calm=true)(h:Ke X f t)(hn:(assignEach f X.env).length=n:=by rfl)(g:(assignEach f X.env).findIdx? (·.1)=none:=by rfl):PG X (.Tuple f k c) (Hc X.K n t):=by intro d s j H v u Q I r i;obtain⟨a,m,p,q,w,i⟩:=i;subst p;cases r;obtain⟨x,l,y,A⟩:=I.tuple q;show assign_Tuple_tuple (I.ok.hd hc) y (by simp[hn,<-w,l.length]) g λh' z=>?_;have I1:aN X d j H {s with heap:=h'}:=I.kept (t':=s.toks) λb o e=>z b o (m3 (j2 e)) e;show h d _ j H m _ Q I1 (by simpa using l) i
def Mq(e f:TE)(t:Hw):TG:=λv a H Q=>e a H λo b=>f a b λi d=>t o i v d λg=>Q a g
def i9(f:PE X o g)(hi:PE X i j)(l:HA X t)(m:∀v,assign (.Subscript o i c) X.env v=(do
   let e<-holding [v] (eval o X.env)let iv<-holding [v,e] (eval i X.env)standAt c
   holding [v,e,iv] (setItem e iv v)release [v,e,iv] []):=by intro _;rfl):PG X (.Subscript o i c) (Mq g j t):=by intro a s d H v u Q I r h;rw[m];show a_ (qq (cw (f a s d H _ I h) λe k b=>?_));obtain⟨x,n,I1,p,q⟩:=b;show a_ (qq (cw (hi a k d n _ I1 q) λiv w b=>?_));obtain⟨y,z,A,r2,B⟩:=b;show a_ (wpAny_standAt (a_ (qq (cw (l a w d z x y v e iv u _ A p r2 r B) λ_ F b=>?_))));obtain⟨C,D,E⟩:=b;show wpAny_release (d,C,D,E,)
def wB(te:TE)(g:TG):TS:=λD a H=>te a H λx b=>g x a b D.nx
def gP(i:PE X e te)(hg:PG X f g)(j:swapsWithSole [f] e c.line X.env=pure false:=by rfl)(l:swappedStores [f] e X.env=pure none:=by rfl)(h1:(assignEach [f] X.env).map (·.2)=[assign f X.env]:=by rfl):PS X (.Assign [f] e c) (wB te g):=by intro a s b H D I h;show wpAny_Assign_stores (cw (i a s b H _ I h) λv d⟨x,k,I1,m,n⟩=>?_) j l;rw[h1];show cw (hg a d b k x v _ I1 m n) λ_ o q=>q
def tR(f:X.N.Nodup)(hi:X.N[i]?=some x)(g:Ki X.env.scope x)(j:PE X e te)(l:swapsWith e (some (.Name x a)) c.line X.env=pure false:=by rfl)(m:X.fn x=true\/X.env.scope.names.lookup x=some .local:=by first|show .inl ()|show .inr ()|assumption):PS X (.Assign [.Name x a] e c) (wB te (io i)):=by intro b s d H D I h;show wpAny_Assign_Name (cw (j b s d H _ I h) λv q⟨y,k,I1,n,o⟩=>?_) l;show sQ I1 f hi g n (λr p=>{_,k,p,o}) m
end
structure It where
 go:Nat->Hp->Prop
 yld:Nat->Hp->V->Hp->Prop
 stop:Nat->Hp->Prop
def vk(X:Cx)(a:OH)(H:Hp)(b:Addr):Prop:=H b=none/\b≠X.env.locals/\b∉X.fs/\(b∈X.ex\/X.s₀.heap.objs.size<=b)/\(∀x c,X.env.cells.lookup x=some c->c≠b)/\∀p∈X.pn++a,p.1≠b
def aN.fpOk(I:aN X a h H s)(f:s.heap.objs.size<=b)(hn:g b=none):vk X a g b:=by
 show{hn,op (n7 I.lt f),I.nofs f,.inr (lm I.sz f),λx c e z=>?_,λp d z=>?_}
 ·obtain⟨v,q⟩:=I.cell x c e;show absurd (n7 q.lt (by rw[z];show f)) (rV _)
 ·show absurd (n7 (j2 (I.pin p d).1) (by rw[z];show f)) (rV _)
structure vh(P:OK)(w:World)(K:OF)(tg:Expr)(J:It)(fp:OP)(it:Addr)(tn:Nat->Heap->Prop):Prop where
 mem:it∈fp
 obj:∀i h,tn i h->∀b∈fp,∃o,h.get? b=some o/\∀v,o.data≠.cell v
 keep:∀i h h',tn i h->(∀b∈fp,∀o,h.get? b=some o->h'.get? b=some o)->tn i h'
 item:∀(X:Cx),X.prog=P->X.w=w->X.K=K->X.calm=true->∀(i:Nat)(pins:OH)(s:Shared)(σ:St)(H:Hp)(E:OG),aN X pins σ H s->(∀b∈fp,vk X pins H b)->tn i s.heap->J.go i H->wpAny (model P w) X.A (pyNext (.ref it)) (λr s1=>∃u,r=some u/\wpAny (model P w) X.A (letOwnedTupleGo tg (.ref it) u) (λ_ s2=>∃x H',aN X pins σ H' s2/\a0 x u/\J.yld i H x H'/\tn (i+1) s2.heap/\∀b∈fp,H' b=none) E s1) E s
 done:∀(X:Cx),X.prog=P->X.w=w->X.K=K->X.calm=true->∀(i:Nat)(pins:OH)(s:Shared)(σ:St)(H:Hp)(E:OG),aN X pins σ H s->(∀b∈fp,vk X pins H b)->tn i s.heap->J.stop i H->wpAny (model P w) X.A (pyNext (.ref it)) (λr s1=>r=none/\aN X pins σ H s1) E s
 self:∀(A:Around)(i:Nat)(s:Shared)(Q:OG)(E:OG),tn i s.heap->Q (.ref it) s->wpAny (model P w) A (pyIter (.ref it)) Q E s
abbrev TI:=St->Hp->(It->Hp->Prop)->Prop
def Mx(X:Cx)(a:OH)(g:St)(h:Expr)(R:It->Hp->Prop)(c:Value)(e:Shared):Prop:=∃(f:Addr)(fp:OP)(tn:Nat->Heap->Prop)(J:It)(d:Hp),c=.ref f/\aN X a g d e/\vh X.prog X.w X.K h J fp f tn/\tn 0 e.heap/\(∀b∈fp,vk X a d b)/\R J d
def PI(X:Cx)(c iter:Expr)(e:TI):Prop:=∀(a:OH)(s:Shared)(b:St)(H:Hp)(R:It->Hp->Prop),aN X a b H s->e b H R->wpAny (model X.prog X.w) X.A (eval iter X.env) (λv d=>wpAny (model X.prog X.w) X.A (pyIter v) (Mx X a b c R) X.xe d) X.xe s
def vU(c:s.heap.get? e=some o)(hc:o.cls=.type n)(hd:o.data=.fields f)(hn:["enumerate","zip","dict_itemiterator","dict_reverseitemiterator","odict_iterator","itertools.zip_longest","itertools.pairwise"].contains n=false)(a:Q Unit.unit s):wpAny M A (letOwnedTupleGo g (.ref e) u) Q E s:=by unfold letOwnedTupleGo;cases g<;>first|show f_ a|(cases u<;>first
 |show f_ a
    |(show a_ (wpAny_load c ?_)
      rw[hc,hd];change wpAny M A (if(["enumerate","zip","dict_itemiterator","dict_reverseitemiterator","odict_iterator","itertools.zip_longest","itertools.pairwise"].contains n&&f[0]?==some (rawInt _))=true then _ else _) Q E s;rw[iA (by intro h;rw[hn,Bool.false_and]at h;cases h)];show f_ a))
def Ig(K:OF)(a:Addr):It:={λi H=>∃b x,aW K H a b/\b[i]?=some x,λi H x c=>c=H/\∀b,aW K H a b->b[i]?=some x,λi H=>∃b,aW K H a b/\b.length<=i}
def Ie(K:OF)(a:Addr):It:={λi H=>∃b x,aS K H a b/\b[i]?=some x,λi H x c=>c=H/\∀b,aS K H a b->b[i]?=some x,λi H=>∃b,aS K H a b/\b.length<=i}
def FD(lo:Int)(n:Nat):It:={λi _=>i<n,λi H x a=>a=H/\x=.int (lo+i),λi _=>n<=i}
def Bp{P:OK}{w:World}{K:OF}{J:Expr}(a g:Addr):vh P w K J (Ig K a) [g] g (λi h=>h.IsListIter g a i)where
 mem:=by simp
 obj:=λi h st b j=>by
  have e:b=g:=by simpa using j
  subst e;obtain⟨o,e,c,d⟩:=st;show{o,e,λv z=>by rw[d]at z;cases z}
 keep:=λi h h' st k=>st.at λo e=>k g (by simp) o e
 item:=by intro X q r t hc i f s G H E I m st hg;subst q r t;obtain⟨L,x,n,y⟩:=hg;obtain⟨A,B,p,M⟩:=I.list n;obtain⟨u,N,ru⟩:=B.get y;obtain⟨C,f1,f2,f3,D,F⟩:=m g (by simp);show wpAny_pyNext_list_item st p.isList (x:=u) (by simpa using N) λh' l O=>?_;have I1:aN X f G H {s with heap:=h'}:=I.turned (t':=s.toks) (λb o j e=>(O.2 b j).trans e) C f1 f3 D F;obtain⟨o,e,c,d⟩:=id l;show{u,(),vU (s:={s with heap:=h'}) e c d (by decide) {x,H,I1,ru,{(),λT R=>by rw[I.list_inj R n];show y},l,λb j=>(m b j).1}}
 done:=by intro X q r t hc i f s G H E I m st hg;subst q r t;obtain⟨L,n,y⟩:=hg;obtain⟨A,B,p,M⟩:=I.list n;obtain⟨C,f1,f2,f3,D,F⟩:=m g (by simp);have U:=B.length;show wpAny_pyNext_list_end (I.ok.hd hc) st p.isList (by simp;lia) λh' S=>{(),I.turned (t':=s.toks) (λb o j e=>S b o j e) C f1 f3 D F}
 self:=λ_ _ _ _ _ st h=>wpAny_pyIter_listiter st h
def zk{P:OK}{w:World}{K:OF}{J:Expr}(a g:Addr):vh P w K J (Ie K a) [g] g (λi h=>h.IsTupleIter g a i)where
 mem:=by simp
 obj:=λi h st b j=>by
  have e:b=g:=by simpa using j
  subst e;obtain⟨o,e,c,d⟩:=st;show{o,e,λv z=>by rw[d]at z;cases z}
 keep:=λi h h' st k=>st.at λo e=>k g (by simp) o e
 item:=by intro X r t y hc i f s G H E I n st hg;subst r t y;obtain⟨L,x,q,A⟩:=hg;obtain⟨l,B,p,M⟩:=I.tuple q;obtain⟨u,N,ru⟩:=B.get A;obtain⟨C,f1,f2,f3,D,F⟩:=n g (by simp);show wpAny_pyNext_tuple_item st (show s.heap.IsTuple a l.toArray from p) (x:=u) (by simpa using N) λh' m O=>?_;have I1:aN X f G H {s with heap:=h'}:=I.turned (t':=s.toks) (λb o j e=>(O.2 b j).trans e) C f1 f3 D F;obtain⟨o,e,c,d⟩:=id m;show{u,(),vU (s:={s with heap:=h'}) e c d (by decide) {x,H,I1,ru,{(),λT R=>by rw[I.tuple_inj R q];show A},m,λb j=>(n b j).1}}
 done:=by intro X r t y hc i f s G H E I n st hg;subst r t y;obtain⟨L,q,A⟩:=hg;obtain⟨l,B,p,M⟩:=I.tuple q;obtain⟨C,f1,f2,f3,D,F⟩:=n g (by simp);have U:=B.length;show wpAny_pyNext_tuple_end (I.ok.hd hc) st (show s.heap.IsTuple a l.toArray from p) (by simp;lia) λh' S=>{(),I.turned (t':=s.toks) (λb o j e=>S b o j e) C f1 f3 D F}
 self:=λ_ _ _ _ _ st h=>wpAny_pyIter_tupleiter st h
def zm{P:OK}{w:World}{K:OF}{x:Expr}(a:Addr)(lo:Int)(n:Nat):vh P w K x (FD lo n) [a] a (λi h=>IsRangeIter h a (lo+(i:Nat)*1) ((n:Int)-(i:Nat)) 1)where
 mem:=by simp
 obj:=λi h st b d=>by
  have e:b=a:=by simpa using d
  subst e;show{_,st,λv z=>by have y:Data.fields _=Data.cell v:=z;cases y}
 keep:=λi h h' st k=>k a (by simp) _ st
 item:=by intro X j l m hc i c s u H E I g st hg;subst j l m;obtain⟨p,f1,f2,f3,q,r⟩:=g a (by simp);have W:=Walks.range (prog:=X.prog) (w:=X.w) (I.ok.hd hc) a lo 1 n;show W.item i s _ _ hg st λv h' tk A f B=>?_;obtain⟨t,rfl⟩:=A;have I1:aN X c u H {s with heap:=h',toks:=tk}:=I.turned (λb o d e=>B b o (by simpa using d) e) p f1 f3 q r;show{_,(),vU (s:={s with heap:=h',toks:=tk}) (n:="range_iterator") f () () (by decide) {.int (lo+i),H,I1,{t,?_},{(),()},f,λb d=>(g b d).1}};rw[Int.mul_one]
 done:=by intro X j l m hc i c s u H E I g st hg;subst j l m;obtain⟨p,f1,f2,f3,q,r⟩:=g a (by simp);show wpAny_pyNext_range_end (I.ok.hd hc) st (by have:n<=i:=hg;lia) λh' C=>{(),I.turned (t':=s.toks) (λb o d e=>C b o d e) p f1 f3 q r}
 self:=λ_ _ _ _ _ st h=>wpAny_pyIter_rangeiter st h
section
variable{X:Cx}{c:Expr}
def HU(K:OF)(e:TE):TI:=λd H R=>e d H λx b=>∃a,x=.ref a/\(∃f,aW K b a f)/\R (Ig K a) b
def Ly(K:OF)(e:TE):TI:=λd H R=>e d H λx b=>∃a,x=.ref a/\(∃f,aS K b a f)/\R (Ie K a) b
def Gy{l:Expr}{g:TE}(i:PE X l g):PI X c l (HU X.K g):=by
 intro d s j H R I h;show cw (i d s j H _ I h) λv f k=>?_;obtain⟨x,m,I1,n,r⟩:=k;obtain⟨a,e,⟨y,t⟩,q⟩:=r;subst e;cases n;obtain⟨u,z,p,A⟩:=I1.list t;show Nx p.isList ?_;show{f.heap.objs.size,[f.heap.objs.size],_,_,m,(),I1.kept (t':=f.toks) λb o e=>c_ _ e,Bp a _,{_,h_ _ (),(),()},λb w=>?_,q};have e:b=f.heap.objs.size:=by simpa using w
 subst e;show I1.fpOk (e_ _) (I1.hok.fresh (e_ _))
def Jf{l:Expr}{i:TE}(j:PE X l i):PI X c l (Ly X.K i):=by
 intro d s k H R I h;show cw (j d s k H _ I h) λv f m=>?_;obtain⟨x,n,I1,r,t⟩:=m;obtain⟨a,e,⟨y,u⟩,q⟩:=t;subst e;cases r;obtain⟨g,z,p,A⟩:=I1.tuple u;show M6 (show f.heap.IsTuple a g.toArray from p) ?_;show{f.heap.objs.size,[f.heap.objs.size],_,_,n,(),I1.kept (t':=f.toks) λb o e=>c_ _ e,zk a _,{_,h_ _ (),(),()},λb w=>?_,q};have e:b=f.heap.objs.size:=by simpa using w
 subst e;show I1.fpOk (e_ _) (I1.hok.fresh (e_ _))
def ye{a:OH}{f:St}{H:Hp}{s:Shared}{R:It->Hp->Prop}{E:OG}{lo hi:Int}{t u v:Tok}{tk:Nat}(I:aN X a f H s)(h1:-(2^62)<=lo)(h2:lo<2^62)(h3:-(2^62)<=hi)(h4:hi<2^62)(q:R (FD lo (hi-lo).toNat) H):wpAny (model X.prog X.w) X.A (pyIter (.ref s.heap.objs.size)) (Mx X a f c R) E {s with heap:=s.heap.push {cls:=.type "range",data:=.fields #[.int lo t,.int hi u,.int 1 v]},toks:=tk}:=by
 show wpAny_pyIter_range (IsRange.new ..) (small_one h1 h2 h3 h4) ?_;have I1:aN X a f H {s with heap:=s.heap.push {cls:=.type "range",data:=.fields #[.int lo t,.int hi u,.int 1 v]},toks:=tk}:=I.kept λb o e=>c_ _ e;show{(s.heap.push {cls:=.type "range",data:=.fields #[.int lo t,.int hi u,.int 1 v]}).objs.size,[(s.heap.push {cls:=.type "range",data:=.fields #[.int lo t,.int hi u,.int 1 v]}).objs.size],_,_,H,(),I1.kept (t':=tk) λb o e=>c_ _ e,zm _ lo (hi-lo).toNat,?_,λb d=>?_,q}
 ·have g:lo+((0:Nat):Int)*1=lo:=by simp
  have h:(((hi-lo).toNat:Nat):Int)-((0:Nat):Int)=Builtin.Range.rangeSize lo hi 1:=by rw[rangeSize_one];split<;>lia
  change IsRangeIter _ _ (lo+((0:Nat):Int)*1) ((((hi-lo).toNat:Nat):Int)-((0:Nat):Int)) 1;rw[g,h];show h_ _ ()
 ·have e:b=(s.heap.push {cls:=.type "range",data:=.fields #[.int lo t,.int hi u,.int 1 v]}).objs.size:=by simpa using d
  subst e;show I1.fpOk (e_ _) (I1.hok.fresh (e_ _))
def LA(a:TA):TI:=λb H R=>a b H λd e=>∃j:Int,d=[.int j]/\-(2^62)<=j/\j<2^62/\R (FD 0 j.toNat) e
def Lz(a:TA):TI:=λb H R=>a b H λd e=>∃i j:Int,d=[.int i,.int j]/\(-(2^62)<=i/\i<2^62/\-(2^62)<=j/\j<2^62)/\R (FD i (j-i).toNat) e
def dA{a:Expr}{g:TA}{p f:Pos}(hg:Gl X "range")(hm:X.mg "range"=none)(i:PA X [a] g)(l:starEach [a] X.env=[(false,eval a X.env)]:=by rfl):PI X c (.Call (.Name "range" p) [a] [] f) (LA g):=by intro b s k H R I h;show Call_ (kW I hg hm boot_range (F_ (cw (i f b s k H _ I h) λu v⟨w,x,I1,m,d⟩=>?_) l ()));obtain⟨j,e,d,n,q⟩:=d;subst e;cases m with|cons r o=>cases o;obtain⟨t,rfl⟩:=r;show call_range_1 (ye I1 (by lia) (by lia) d n (by simpa using q))
def vH(hg:Gl X "range")(hm:X.mg "range"=none)(m:PA X [a,b] n)(o:starEach [a,b] X.env=[(false,eval a X.env),(false,eval b X.env)]:=by rfl)(f:starEach [b] X.env=[(false,eval b X.env)]:=by rfl):PI X c (.Call (.Name "range" p) [a,b] [] g) (Lz n):=by intro d s u H R I h;show Call_ (kW I hg hm boot_range (F_ (cw (m g d s u H _ I h) λA B⟨C,D,I1,v,k⟩=>?_) (by rw[o,f]) (by rw[f];rfl)));obtain⟨i,j,e,⟨k,w,x,y⟩,q⟩:=k;subst e;cases v with|cons r l=>cases l with|cons z l=>cases l;obtain⟨t,rfl⟩:=r;obtain⟨E,rfl⟩:=z;show call_range_2 (ye I1 k w x y q)
def L9(h:TI)(g:TG)(j:TS):TS:=λD a H=>h a H λJ k=>∃W:Nat->Nat->St->Hp->Prop,(∃m,W 0 m a k)/\∀i m a H,W i m a H->(J.stop i H/\D.nx a H)\/(J.go i H/\∃N:St->Hp->Prop,(∀b d,N b d->∃f,f<m/\W (i+1) f b d)/\∀x d,J.yld i H x d->g x a d λe l=>j {D with nx:=N,ct:=N,bk:=D.nx} e l)
def tU(fp:OP)(h:Heap):List (Addr×Obj):=fp.filterMap λb=>(h.get? b).map λo=>(b,o)
def kT(a:b∈fp)(e:h.get? b=some o):(b,o)∈tU fp h:=List.mem_filterMap.mpr {b,a,by rw[e];rfl}
def BY(a:p∈tU fp h):p.1∈fp/\h.get? p.1=some p.2:=by obtain⟨b,d,e⟩:=List.mem_filterMap.mp a;cases q:h.get? b with|none=>rw[q]at e;cases e|some o=>rw[q]at e;have f:(b,o)=p:=mu e;subst f;show(d,q,)
def aN.pinned(I:aN X a h H s)(i:∀b∈fp,vk X a H b)(j:∀b∈fp,∃o,s.heap.get? b=some o/\∀v,o.data≠.cell v):aN X (a++tU fp s.heap) h H s:=I.pins_of λp k=>(List.mem_append.mp k).elim (λz=>I.pin p (ot _ z)) λz=>by obtain⟨f,e⟩:=BY z;obtain⟨l,f1,f2,_⟩:=i p.1 f;obtain⟨o,g,d⟩:=j p.1 f;rw[e]at g;cases g;show(e,l,f1,f2,d,)
def aN.unpinned(I:aN X (a++pl) e H s):aN X a e H s:=I.pins_of λp b=>I.pin p (ot _ (ol _ b))
def eO(E:PassesOwn (model X.prog X.w) X.A X.env X.xe)(hc:X.calm=true)(hi:PI X c iter wi)(hg:PG X c g)(l:vi X F tb)(hs:∀x,foldedSetIterable iter X.env x=pure x:=by intro _;rfl):PS X (.For c iter F [] aa) (L9 wi g tb):=by
 intro a s Z H D I h;show wpAny_For (cw (hi a s Z H _ I h) λv s1 h1=>cw h1 λac s2 h2=>?_) hs;obtain⟨it,fp,tn,J,H2,e,I2,T,P,f2,W,⟨m0,w0⟩,G⟩:=h2;subst e;have k:∀{z:Hp},(∀b∈fp,z b=none)->∀b∈fp,vk X a z b:=λhn b l=>{hn b l,(f2 b l).2};show codeAny_forLoop_any (λn s'=>∃i p z,aN X a p z s'/\tn i s'.heap/\(∀b∈fp,z b=none)/\W i n p z) ?_ m0 {0,Z,H2,I2,P,λb l=>(f2 b l).1,w0};rintro n s3⟨i,q,O,I3,K,L,w3⟩;rcases G i n q O w3 with⟨stop,qn⟩|⟨go,N,hN,step⟩
 ·show Nm E (cw (T.done X () () () hc i a s3 q O X.xe I3 (k L) K stop) λr s4⟨Q,I4⟩=>?_);subst Q;show No (q,O,I4,qn,)
 ·show Nm E (cw (T.item X () () () hc i a s3 q O X.xe I3 (k L) K go) λr s4⟨u,Q,h4⟩=>?_);subst Q;show Nm E (cw h4 λ_ s5 R=>?_);obtain⟨x,H5,I5,r5,y5,C,S⟩:=R;have U:=I5.pinned (k S) (T.obj _ _ C);show Nm E (cw (hg _ s5 q H5 x u _ U r5 (step x H5 y5)) λ_ s6 R=>?_);obtain⟨V,H6,I6,q6⟩:=R;show Nm E (cw (l _ s6 V H6 _ I6 q6) λf Y B=>?_);have again:∀{j:St}{t:Hp},aN X (a++tU fp s5.heap) j t Y->N j t->∃m,m<n/\∃i p z,aN X a p z Y/\tn i Y.heap/\(∀b∈fp,z b=none)/\W i m p z:=λ{j t}y M=>by obtain⟨m',hm,w7⟩:=hN j t M;show{m',hm,i+1,j,t,y.unpinned,T.keep _ _ _ C λb l o e=>(y.pin (b,o) (ot _ (ot _ (kT l e)))).1,λb l=>?_,w7};obtain⟨o,e,d⟩:=T.obj _ _ C b l;show(y.pin (b,o) (ot _ (ot _ (kT l e)))).2.1
  cases f with|next=>obtain⟨j,t,y,M⟩:=B;show again y M|cont=>obtain⟨j,t,y,M⟩:=B;show again y M|brk=>obtain⟨j,t,y,B⟩:=B;show(j,t,y.unpinned,B,)|ret v=>obtain⟨x7,j,t,y,r7,B⟩:=B;show(x7,j,t,y.unpinned,r7,B,)
end
def ul{K:OF}{a:Addr}{xs:List V}{g:TG}{tb:TS}{D:jl}{c:St}{H:Hp}(Pv:Nat->St->Hp->Prop)(h0:Pv 0 c H)(o:∀i c H,i<=xs.length->Pv i c H->aW K H a xs)(r:∀i x c H,xs[i]?=some x->Pv i c H->g x c H λf l=>tb {D with nx:=Pv (i+1),ct:=Pv (i+1),bk:=D.nx} f l)(hd:∀c H,Pv xs.length c H->D.nx c H):∃W:Nat->Nat->St->Hp->Prop,(∃m,W 0 m c H)/\∀i m c H,W i m c H->((Ig K a).stop i H/\D.nx c H)\/((Ig K a).go i H/\∃N:St->Hp->Prop,(∀h j,N h j->∃n,n<m/\W (i+1) n h j)/\∀x j,(Ig K a).yld i H x j->g x c j λf l=>tb {D with nx:=N,ct:=N,bk:=D.nx} f l):=by
 show{λi m c H=>m=xs.length-i/\i<=xs.length/\Pv i c H,{xs.length,by simp,np _,h0},?_};rintro i m c H⟨rfl,hi,p⟩;have q:=o i c H hi p
 by_cases b:i<xs.length
 ·show .inr {{xs,xs[i],q,by simp[b]},Pv (i+1),λh j d=>{xs.length-(i+1),by lia,(),b,d},λx j y=>?_};obtain⟨e,y⟩:=y;subst e;show r i x c _ (y xs q) p
 ·have e:i=xs.length:=by lia
  subst e;show .inl {{xs,q,e_ _},hd c H p}
def A8{K:OF}{a:Addr}{xs:List V}{g:TG}{n:TS}{D:jl}{c:St}{H:Hp}(Pv:Nat->St->Hp->Prop)(h0:Pv 0 c H)(r:∀i c H,i<=xs.length->Pv i c H->aS K H a xs)(s:∀i x c H,xs[i]?=some x->Pv i c H->g x c H λf l=>n {D with nx:=Pv (i+1),ct:=Pv (i+1),bk:=D.nx} f l)(hd:∀c H,Pv xs.length c H->D.nx c H):∃W:Nat->Nat->St->Hp->Prop,(∃m,W 0 m c H)/\∀i m c H,W i m c H->((Ie K a).stop i H/\D.nx c H)\/((Ie K a).go i H/\∃N:St->Hp->Prop,(∀h j,N h j->∃o,o<m/\W (i+1) o h j)/\∀x j,(Ie K a).yld i H x j->g x c j λf l=>n {D with nx:=N,ct:=N,bk:=D.nx} f l):=by
 show{λi m c H=>m=xs.length-i/\i<=xs.length/\Pv i c H,{xs.length,by simp,np _,h0},?_};rintro i m c H⟨rfl,hi,p⟩;have q:=r i c H hi p
 by_cases b:i<xs.length
 ·show .inr {{xs,xs[i],q,by simp[b]},Pv (i+1),λh j d=>{xs.length-(i+1),by lia,(),b,d},λx j y=>?_};obtain⟨e,y⟩:=y;subst e;show s i x c _ (y xs q) p
 ·have e:i=xs.length:=by lia
  subst e;show .inl {{xs,q,e_ _},hd c H p}
def iP{lo:Int}{n:Nat}{g:TG}{tb:TS}{D:jl}{a:St}{H:Hp}(Pv:Nat->St->Hp->Prop)(h0:Pv 0 a H)(o:∀i a H,i<n->Pv i a H->g (.int (lo+i)) a H λc j=>tb {D with nx:=Pv (i+1),ct:=Pv (i+1),bk:=D.nx} c j)(hd:∀a H,Pv n a H->D.nx a H):∃W:Nat->Nat->St->Hp->Prop,(∃m,W 0 m a H)/\∀i m a H,W i m a H->((FD lo n).stop i H/\D.nx a H)\/((FD lo n).go i H/\∃N:St->Hp->Prop,(∀f h,N f h->∃l,l<m/\W (i+1) l f h)/\∀x h,(FD lo n).yld i H x h->g x a h λc j=>tb {D with nx:=N,ct:=N,bk:=D.nx} c j):=by
 show{λi m a H=>m=n-i/\i<=n/\Pv i a H,{n,by simp,np _,h0},?_};rintro i m a H⟨rfl,hi,p⟩
 by_cases b:i<n
 ·show .inr {b,Pv (i+1),λf h d=>{n-(i+1),by lia,(),b,d},λx h y=>?_};obtain⟨e,y⟩:=y;subst e y;show o i a _ b p
 ·have e:i=n:=by lia
  subst e;show .inl {e_ _,hd a H p}
abbrev R2:=V->V->Hp->VK->Prop
def kL(X:Cx)(f:Value->Value->Sem Value)(r:R2):Prop:=∀(a:OH)(s:Shared)(b:St)(H:Hp)(x y:V)(v u:Value)(Q:VK),aN X a b H s->a0 x v->a0 y u->r x y H Q->wpAny (model X.prog X.w) X.A (f v u) (EP X a b Q) X.xe s
def Mv(X:Cx)(f:Value->Sem Value)(r:V->Hp->VK->Prop):Prop:=∀(a:OH)(s:Shared)(b:St)(H:Hp)(x:V)(v:Value)(Q:VK),aN X a b H s->a0 x v->r x H Q->wpAny (model X.prog X.w) X.A (f v) (EP X a b Q) X.xe s
def dG(X:Cx)(f:Value)(r:List V->Hp->VK->Prop):Prop:=∀(a:OH)(s:Shared)(b:St)(H:Hp)(c:List V)(d:OJ)(Q:VK),aN X a b H s->be c d->r c H Q->wpAny (model X.prog X.w) X.A (call f d) (EP X a b Q) X.xe s
def Mw(X:Cx)(r:V->Hp->(Bool->Hp->Prop)->Prop):Prop:=∀(a:OH)(s:Shared)(b:St)(H:Hp)(x:V)(v:Value)(Q:Bool->Hp->Prop),aN X a b H s->a0 x v->r x H Q->wpAny (model X.prog X.w) X.A (truthy v) (TP X a b Q) X.xe s
def Iq(r:R2)(c e:TE):TE:=λa H Q=>c a H λx b=>e a b λy d=>r x y d Q
def tUn(r:V->Hp->VK->Prop)(a:TE):TE:=λb H Q=>a b H λx c=>r x c Q
def rI(C:Int->Int->Prop)(g:Int->Int->V):R2:=λx y H Q=>∃i j,x=.int i/\y=.int j/\C i j/\Q (g i j) H
def Gm(g:Int->Int->V):R2:=λx y H Q=>∃i j,x=.int i/\y=.int j/\Q (g i j) H
def rU(g:Int->V):V->Hp->VK->Prop:=λx H Q=>∃i,x=.int i/\Q (g i) H
section
variable{X:Cx}{a b:Expr}{e m:TE}{l:Pos}
def J8(q:PE X a e)(r:PE X b m){g:OH}{s:Shared}{i:St}{H:Hp}{R:V->V->Hp->Prop}(I:aN X g i H s)(h:e i H λx p=>m i p λy j=>R x y j){Q:OG}{f:Value->Value->Sem Value}(z:∀v u o x y j,aN X g i j o->a0 x v->a0 y u->R x y j->wpAny (model X.prog X.w) X.A (f v u) Q X.xe o):wpAny (model X.prog X.w) X.A (eval a X.env) (λv s₁=>wpAny (model X.prog X.w) X.A (eval b X.env) (λu n=>wpAny (model X.prog X.w) X.A (f v u) Q X.xe n) X.xe s₁) X.xe s:=by show cw (q g s i H _ I h) λv k d=>?_;obtain⟨x,p,I1,t,B⟩:=d;show cw (r g k i p _ I1 B) λu o d=>?_;obtain⟨y,j,C,r2,D⟩:=d;show z v u o x y j C t r2 D
def ay{f:Operator}{r:R2}(g:kL X (binaryOp f) r)(i:PE X a e)(j:PE X b m):PE X (.BinOp a f b l) (Iq r e m):=by intro d s k H Q I h;show wpAny_BinOp (J8 i j I h λv u n x y o p t w q=>g d n k o x y v u Q p t w q)
def HN(g:Mv X (unaryOp i) r)(j:PE X a e):PE X (.UnaryOp i a l) (tUn r e):=by intro d s f H Q I h;show UnaryOp_ (cw (j d s f H _ I h) λv k n=>?_);obtain⟨x,o,I1,p,q⟩:=n;show g d k f o x v Q I1 p q
def Lf{f:Value->Value->Sem Value}{C:Int->Int->Prop}{g:Int->Int->Int}(rule:∀(i j:Int)(t u:Tok)(s:Shared)(Q:OG)(E:OG),C i j->Q (.int (g i j) s.toks) {s with toks:=s.toks+1}->wpAny (model X.prog X.w) X.A (f (.int i t) (.int j u)) Q E s):kL X f (rI C λi j=>.int (g i j)):=by intro d s p H x y v u Q I k n h;obtain⟨i,j,rfl,rfl,hc,q⟩:=h;obtain⟨t,rfl⟩:=k;obtain⟨o,rfl⟩:=n;show rule i j t o s _ _ hc {.int (g i j),H,I.tok _,{_,()},q}
def Jo{f:Value->Value->Sem Value}{g:Int->Int->Int}(rule:∀(i j:Int)(t u:Tok)(s:Shared)(Q:OG)(E:OG),Q (.int (g i j) s.toks) {s with toks:=s.toks+1}->wpAny (model X.prog X.w) X.A (f (.int i t) (.int j u)) Q E s):kL X f (Gm λi j=>.int (g i j)):=by intro d s p H x y v u Q I k n h;obtain⟨i,j,rfl,rfl,q⟩:=h;obtain⟨t,rfl⟩:=k;obtain⟨o,rfl⟩:=n;show rule i j t o s _ _ {.int (g i j),H,I.tok _,{_,()},q}
def GJ{f:Value->Value->Sem Value}{g:Int->Int->Bool}(rule:∀(i j:Int)(t u:Tok)(s:Shared)(Q:OG)(E:OG),Q (.bool (g i j)) s->wpAny (model X.prog X.w) X.A (f (.int i t) (.int j u)) Q E s):kL X f (Gm λi j=>.bl (g i j)):=by intro d s p H x y v u Q I k n h;obtain⟨i,j,rfl,rfl,q⟩:=h;obtain⟨t,rfl⟩:=k;obtain⟨o,rfl⟩:=n;show rule i j t o s _ _ {.bl (g i j),H,I,(),q}
def fI(i j:Int):Prop:=0<j/\j<1073741824
def ME(i j:Int):Prop:=0<=j/\j<=1000000/\i.natAbs<2^64
def Kk(i j:Int):Prop:=(-(2^64)<i/\i<2^64)\/(-(2^64)<j/\j<2^64)
def Kk.ok(h:Kk i j):IntMulOk i j:=by
 rcases h with⟨h1,h2⟩|⟨h1,h2⟩
 ·show .of_left (intBits_le_64 h1 h2)
 ·show .of_right (intBits_le_64 h1 h2)
def two_pow_nn(k:Nat):(0:Int)<=2^k:=by rw[two_pow_cast];show kl _
def bP:kL X (binaryOp .Add) (Gm λi j=>.int (i+j)):=Jo λ_ _ _ _ _ _ _ q=>add_int q
def f9:kL X (binaryOp .Sub) (Gm λi j=>.int (i-j)):=Jo λ_ _ _ _ _ _ _ q=>sub_int q
def gQ:kL X (binaryOp .Mult) (rI Kk λi j=>.int (i*j)):=Lf λ_ _ _ _ _ _ _ hc q=>mul_int q hc.ok
def bp:kL X (binaryOp .FloorDiv) (rI fI λi j=>.int (i/j)):=Lf λi j _ _ _ _ _ hc q=>by have h1:(0:Int)<j:=hc.1;have h2:j<1073741824:=hc.2;show floordiv_int (by lia) (by rw[Nv i (by lia)];show q) (.inl (PyProof.noPylong_small (by lia)))
def aU:kL X (binaryOp .Mod) (rI (λ_ j=>0<j) λi j=>.int (i%j)):=Lf λi j _ _ _ _ _ hc q=>by have h1:(0:Int)<j:=hc;show mod_int' (by lia) (by rw[Int.fmod_eq_emod_of_nonneg i (by lia)];show q)
def DQ:kL X (binaryOp .Pow) (rI ME λi j=>.int (i^j.toNat)):=Lf λ_ _ _ _ _ _ _ hc q=>pow_int_small hc.1 hc.2.1 hc.2.2 q
def Jm:kL X (binaryOp .RShift) (rI (λ_ j=>0<=j) λi j=>.int (i/2^j.toNat)):=Lf λi j _ _ _ _ _ hc q=>rshift_int hc (by rw[Nv i (two_pow_nn _)];show q)
def DU:kL X (binaryOp .BitAnd) (Gm λi j=>.int (Builtin.bitAnd i j)):=Jo λ_ _ _ _ _ _ _ q=>and_int q
def unI{f:Value->Sem Value}{g:Int->Int}(rule:∀(i:Int)(t:Tok)(s:Shared)(Q:OG)(E:OG),Q (.int (g i) s.toks) {s with toks:=s.toks+1}->wpAny (model X.prog X.w) X.A (f (.int i t)) Q E s):Mv X f (rU λi=>.int (g i)):=by intro d s k H x v Q I j h;obtain⟨i,rfl,q⟩:=h;obtain⟨t,rfl⟩:=j;show rule i t s _ _ {.int (g i),H,I.tok _,{_,()},q}
def CL:Mv X (unaryOp .USub) (rU λi=>.int (-i)):=unI λ_ _ _ _ _ q=>neg_int q
end
noncomputable def fK:V->V->Bool|.non,.non=>true|.non,.int _=>true|.int _,.non=>true|.non,.bl _=>true|.bl _,.non=>true|.non,.str _=>true|.str _,.non=>true|.int _,.int _=>true|.bl _,.bl _=>true|.str _,.str _=>true|.byt _,.byt _=>true|.int _,.str _=>true|.str _,.int _=>true|.bl _,.str _=>true|.str _,.bl _=>true|_,_=>false
def rEq:R2:=λx y H Q=>fK x y=true/\Q (.bl (decide (x=y))) H
def rNe:R2:=λx y H Q=>fK x y=true/\Q (.bl (!decide (x=y))) H
def Bc:decide (V.int i=V.int j)=(i==j):=by rw[N4];simp
def E7:decide (V.bl i=V.bl j)=(i==j):=by rw[N4];simp
def Ba:decide (V.str i=V.str j)=(i==j):=by rw[N4];simp
def Bd:decide (V.byt i=V.byt j)=(i.toList==j.toList):=by rw[N4];cases i;cases j;simp
section
variable{X:Cx}{a b c:Expr}{f g tc:TE}{l:Pos}
def bO(I:aN X h i H s)(q:Q (.bl k) H)(e:k=j):EP X h i Q (.bool j) s:=by subst e;show{.bl k,H,I,(),q}
def aQ:kL X (compareOp .Eq) rEq:=by intro n s o H x y v u Q I m d h;obtain⟨k,q⟩:=h;cases x with
 |non=>cases m;cases y with|non=>cases d;show PySem.EqNone.eq_none_none (bO I q (by simp))|bl j=>cases d;show PySem.EqNone.eq_none_bool (bO I q (by simp))|int j=>obtain⟨e,rfl⟩:=d;show PySem.EqNone.eq_none_int (bO I q (by simp))|str j=>obtain⟨e,rfl⟩:=d;show PySem.EqNone.eq_none_str (bO I q (by simp))|_=>show absurd (show false=true from k) kw
 |bl i=>cases m;cases y with|non=>cases d;show PySem.EqNone.eq_bool_none (bO I q (by simp))|bl j=>cases d;show eq_bool (bO I q E7)|str j=>obtain⟨e,rfl⟩:=d;show PySem.EqMixed.eq_bool_str (bO I q (by simp))|_=>show absurd (show false=true from k) kw
 |int i=>obtain⟨t,rfl⟩:=m;cases y with|non=>cases d;show PySem.EqNone.eq_int_none (bO I q (by simp))|int j=>obtain⟨e,rfl⟩:=d;show eq_int (bO I q Bc)|str j=>obtain⟨e,rfl⟩:=d;show PySem.EqMixed.eq_int_str (bO I q (by simp))|_=>show absurd (show false=true from k) kw
 |str i=>obtain⟨t,rfl⟩:=m;cases y with|non=>cases d;show PySem.EqNone.eq_str_none (bO I q (by simp))|bl j=>cases d;show PySem.EqMixed.eq_str_bool (bO I q (by simp))|int j=>obtain⟨e,rfl⟩:=d;show PySem.EqMixed.eq_str_int (bO I q (by simp))|str j=>obtain⟨e,rfl⟩:=d;show eq_str (bO I q Ba)|_=>show absurd (show false=true from k) kw
 |byt i=>obtain⟨t,rfl⟩:=m;cases y with|byt j=>obtain⟨e,rfl⟩:=d;show PySem.W.eq_bytes (bO I q Bd)|_=>show absurd (show false=true from k) kw
 |_=>cases y<;>show absurd (show false=true from k) kw
def HQ:kL X (compareOp .NotEq) rNe:=by intro n s o H x y v u Q I m d h;obtain⟨k,q⟩:=h;cases x with
 |non=>cases m;cases y with|non=>cases d;show PySem.EqNone.ne_none_none (bO I q (by simp))|bl j=>cases d;show PySem.EqNone.ne_none_bool (bO I q (by simp))|int j=>obtain⟨e,rfl⟩:=d;show PySem.EqNone.ne_none_int (bO I q (by simp))|str j=>obtain⟨e,rfl⟩:=d;show PySem.EqNone.ne_none_str (bO I q (by simp))|_=>show absurd (show false=true from k) kw
 |bl i=>cases m;cases y with|non=>cases d;show PySem.EqNone.ne_bool_none (bO I q (by simp))|bl j=>cases d;show ne_bool (bO I q (r_ not E7))|str j=>obtain⟨e,rfl⟩:=d;show PySem.EqMixed.ne_bool_str (bO I q (by simp))|_=>show absurd (show false=true from k) kw
 |int i=>obtain⟨t,rfl⟩:=m;cases y with|non=>cases d;show PySem.EqNone.ne_int_none (bO I q (by simp))|int j=>obtain⟨e,rfl⟩:=d;show ne_int (bO I q (r_ not Bc))|str j=>obtain⟨e,rfl⟩:=d;show PySem.EqMixed.ne_int_str (bO I q (by simp))|_=>show absurd (show false=true from k) kw
 |str i=>obtain⟨t,rfl⟩:=m;cases y with|non=>cases d;show PySem.EqNone.ne_str_none (bO I q (by simp))|bl j=>cases d;show PySem.EqMixed.ne_str_bool (bO I q (by simp))|int j=>obtain⟨e,rfl⟩:=d;show PySem.EqMixed.ne_str_int (bO I q (by simp))|str j=>obtain⟨e,rfl⟩:=d;show ne_str (bO I q (r_ not Ba))|_=>show absurd (show false=true from k) kw
 |byt i=>obtain⟨t,rfl⟩:=m;cases y with|byt j=>obtain⟨e,rfl⟩:=d;show PySem.W.ne_bytes (bO I q (r_ not Bd))|_=>show absurd (show false=true from k) kw
 |_=>cases y<;>show absurd (show false=true from k) kw
def yk:kL X (compareOp .Lt) (Gm λi j=>.bl (decide (i<j))):=GJ λ_ _ _ _ _ _ _ q=>lt_int q
def jA:kL X (compareOp .LtE) (Gm λi j=>.bl (decide (i<=j))):=GJ λ_ _ _ _ _ _ _ q=>le_int q
def pE:kL X (compareOp .Gt) (Gm λi j=>.bl (decide (j<i))):=GJ λ_ _ _ _ _ _ _ q=>gt_int q
def AQ:kL X (compareOp .GtE) (Gm λi j=>.bl (decide (j<=i))):=GJ λ_ _ _ _ _ _ _ q=>ge_int q
def BS:kL X (compareOp .In) (λx y H Q=>∃i j,x=.str i/\y=.str j/\Q (.bl (!(Builtin.Str.occurrences j i 0 j.length 1).isEmpty)) H):=by intro d s m H x y v u Q I e k h;obtain⟨i,j,rfl,rfl,q⟩:=h;obtain⟨t,rfl⟩:=e;obtain⟨n,rfl⟩:=k;show in_str (bO I q ())
def DT:kL X (compareOp .Is) (λx y H Q=>y=.non/\Q (.bl (decide (x=.non))) H):=by intro d s j H x y v u Q I e i h;obtain⟨rfl,q⟩:=h;cases i;show is_none_gen (bO I q ?_);cases x<;>first|(cases e;rfl)|(obtain⟨t,rfl⟩:=e;rfl)
def wN:kL X (compareOp .IsNot) (λx y H Q=>y=.non/\Q (.bl (!decide (x=.non))) H):=by intro d s j H x y v u Q I e i h;obtain⟨rfl,q⟩:=h;cases i;show isnot_none_gen (bO I q ?_);cases x<;>first|(cases e;rfl)|(obtain⟨t,rfl⟩:=e;rfl)
def aE(b:Expr)(h:e≠.In:=by decide)(h2:e≠.NotIn:=by decide):behindInMarks e b=false:=by
 have d:(e==CmpOp.In)=false:=by cases e<;>first|rfl|show absurd () h
 have i:(e==CmpOp.NotIn)=false:=by cases e<;>first|rfl|show absurd () h2
 cases b<;>simp[behindInMarks,d,i]
def bL(i:kL X (compareOp e) r)(j:PE X a f)(m:PE X b g)(hm:behindInMarks e b=false):PE X (.Compare a [e] [b] l) (Iq r f g):=by intro d s k H Q I h;show wpAny_Compare1 (J8 j m I h λv u n x y o p t w q=>i d n k o x y v u Q p t w q) hm
def HF(t:TE):TT:=λd H Q=>t d H λx e=>∃k,x=.bl k/\Q k e
def aC(m:kL X (compareOp j) r)(n:PE X a f)(o:PE X b g)(hm:behindInMarks j b=false):PT X (.Compare a [j] [b] l) (HF (Iq r f g)):=by
 intro d s i H Q I h;show wpAny_isTrue_Compare1 (cw (n d s i H _ I h) λv p⟨x,q,I1,t,w⟩=>cw (o d p i q _ I1 w) λu A⟨y,B,C,r2,D⟩=>cw (m d A i B x y v u _ C t r2 D) λc K⟨z,E,F,G,k,e,J⟩=>?_) hm
 subst e;cases G;show sT (E,F,J,)
def CU(r h:R2)(f g tc:TE):TE:=λd H Q=>f d H λx i=>g d i λy j=>r x y j λz e=>∃k,z=.bl k/\(if k=true then tc d e λm n=>h y m n Q else Q (.bl false) e)
def tY(w:kL X (compareOp o) r)(n:kL X (compareOp j) A)(B:PE X a f)(C:PE X b g)(hc:PE X c tc)(hm:lastMarks [o,j] [b,c]=false:=by with_unfolding_all rfl):PE X (.Compare a [o,j] [b,c] l) (CU r A f g tc):=by
 intro i s m H Q I h;show Compare_chain (cw (B i s m H _ I h) λv D⟨x,E,I1,F,G⟩=>chain_link (cw (C i D m E _ I1 G) λu J⟨y,K,L,r2,M⟩=>cw (w i J m K x y v u _ L F r2 M) λd N⟨z,p,q,O,k,e,t⟩=>?_)) hm
 subst e;cases O;show sT ?_;cases k with|false=>show ite_ff {.bl false,p,q,(),t}|true=>show ite_tt (chain_last (cw (hc i N m p _ q t) λP R⟨S,T,U,V,W⟩=>n i R m T y S u P Q U r2 V W))
def yg(A:kL X (compareOp p) r)(n:kL X (compareOp j) B)(C:PE X a f)(D:PE X b g)(hc:PE X c tc)(hm:lastMarks [p,j] [b,c]=false:=by with_unfolding_all rfl):PT X (.Compare a [p,j] [b,c] l) (HF (CU r B f g tc)):=by
 intro i s m H Q I h;show isTrue_chain (cw (C i s m H _ I h) λv E⟨x,F,I1,G,J⟩=>test_link (cw (D i E m F _ I1 J) λu K⟨y,L,M,r2,N⟩=>cw (A i K m L x y v u _ M G r2 N) λd O⟨z,q,t,P,k,e,w⟩=>?_)) hm
 subst e;cases P;show sT ?_;cases k with|false=>obtain⟨k',R,S⟩:=w;cases R;show ite_ff (q,t,S,)|true=>show ite_tt (test_last (cw (hc i O m q _ t w) λT U o=>?_));obtain⟨V,W,Y,Z,q4⟩:=o;show cw (n i U m W y V u T _ Y r2 Z q4) λd' s5 o=>?_;obtain⟨z2,H5,I5,r5,k2,e2,q5⟩:=o;subst e2;cases r5;show sT (H5,I5,q5,)
def Kb(K:OF)(x:V)(H:Hp)(k:Bool):Prop:=match x with|.non=>k=false|.bl b=>k=b|.int i=>k=(i !=0)|.str y=>y.length<=sizeLine/\k=((y.length:Int)!=0)|.byt y=>y.size<=sizeLine/\k=((y.size:Int)!=0)|.ref p=>(∃d,aW K H p d/\k=!d.isEmpty)\/(∃d,aS K H p d/\k=!d.isEmpty)\/∃e,H p=some (.dK e)/\k=!e.isEmpty|_=>False
def zW(r:KV e h):(!h.isEmpty)=!e.isEmpty:=by cases r<;>rfl
def uk(r:be h e):(!e.toArray.isEmpty)=!h.isEmpty:=by cases r<;>simp
def qz:(sizeLine:Nat)<2^63:=by rw[ji];decide
def Ik:Mw X (λx H Q=>∃k,Kb X.K x H k/\Q k H):=by intro C s G H x v Q I u h;obtain⟨k,e,q⟩:=h;have J:=qz;have L:sizeLine=16777216:=ji;cases x with|non=>cases u;have d:k=false:=e;subst d;show truthy_none (H,I,q,)|bl b=>cases u;have d:k=b:=e;subst d;show sT (H,I,q,)|int i=>obtain⟨t,rfl⟩:=u;have d:k=(i !=0):=e;subst d;show PySem.P.truthy_int (H,I,q,)|str y=>obtain⟨t,rfl⟩:=u;obtain⟨E,d⟩:y.length<=sizeLine/\k=((y.length:Int)!=0):=e;subst d;show PySem.P.truthy_str (by lia) {H,I.tok _,q}|byt y=>obtain⟨t,rfl⟩:=u;obtain⟨E,d⟩:y.size<=sizeLine/\k=((y.size:Int)!=0):=e;subst d;show PySem.W.truthy_bytes (by lia) {H,I.tok _,q}|ref p=>
  cases u;have d:(∃o,aW X.K H p o/\k=!o.isEmpty)\/(∃o,aS X.K H p o/\k=!o.isEmpty)\/∃j,H p=some (.dK j)/\k=!j.isEmpty:=e;rcases d with⟨o,z,d⟩|⟨o,z,d⟩|⟨j,z,d⟩
  ·subst d;obtain⟨B,r,pl,D⟩:=I.list z;have n:=r.length;show wpAny_truthy_list pl.isList (by simp only[md];lia) {H,I.tok _,by rw[uk r];show q}
  ·subst d;obtain⟨B,r,pl,D⟩:=I.tuple z;have n:=r.length;show truthy_tuple pl (by simp only[md];lia) {H,I.tok _,by rw[uk r];show q}
  ·subst d;obtain⟨D,F,A,r,m⟩:j.length<=sizeLine/\(p==sysModules)=false/\∃A,KV j A/\s.heap.DictOf (aV X.prog X.w) p A:=I.hok p _ z;have n:j.length=A.length:=Paired.length r;show wpAny_truthy_dict F m (by lia) {H,I.tok _,by rw[zW r];show q}|_=>show(show False from e).elim
def DJ(m:PE X a f)(n:∀e,isTrue a X.env e=(do let v<-e;standAt a.pos;holding [v] (truthy v))):PT X a (λi H Q=>f i H λx j=>∃k,Kb X.K x j k/\Q k j):=by intro d s i H Q I h;show isTrue_plain (cw (m d s i H _ I h) λv o⟨x,p,I1,q,r⟩=>Ik d o i p x v Q I1 q r) (n _)
def jb:kL X (binaryOp .Add) (λx y H Q=>∃i j,x=.str i/\y=.str j/\i.length+j.length<=sizeLine/\Q (.str (i++j)) H):=by intro d s o H x y v u Q I e k h;obtain⟨i,j,rfl,rfl,m,q⟩:=h;obtain⟨t,rfl⟩:=e;obtain⟨n,rfl⟩:=k;show add_str (λn tk=>{.str (i++j),H,I.tok _,{_,()},q}) m
def k9(r:be [x] e):∃u,e=[u]/\a0 x u:=by cases r with|cons d r2=>cases r2;show{_,(),d}
def vo(r:be [x,y] h):∃u e,h=[u,e]/\a0 x u/\a0 y e:=by cases r with|cons d r2=>cases r2 with|cons i j=>cases j;show{_,_,(),d,i}
def Ct(hc:X.calm=true):dG X (.builtin "max") (λe H Q=>∃i j,e=[.int i,.int j]/\Q (.int (if j>i then j else i)) H):=by
 intro m s n H e o Q I r h;obtain⟨i,j,rfl,q⟩:=h;obtain⟨u,p,rfl,⟨t,rfl⟩,⟨v,rfl⟩⟩:=vo r;show max_two_ints (I.ok.hd hc) λh' tk k=>{_,H,I.kept k,?_,q}
 by_cases d:j>i
 ·rw[i_ d,i_ d];show{_,()}
 ·rw[iA d,iA d];show{_,()}
def qH(hc:X.calm=true):dG X (.builtin "min") (λe H Q=>∃i j,e=[.int i,.int j]/\Q (.int (if j<i then j else i)) H):=by
 intro m s n H e o Q I r h;obtain⟨i,j,rfl,q⟩:=h;obtain⟨u,p,rfl,⟨t,rfl⟩,⟨v,rfl⟩⟩:=vo r;show min_two_ints (I.ok.hd hc) λh' tk k=>{_,H,I.kept k,?_,q}
 by_cases d:j<i
 ·rw[i_ d,i_ d];show{_,()}
 ·rw[iA d,iA d];show{_,()}
def LQ(K:OF)(x:V)(H:Hp)(n:Nat):Prop:=match x with|.str y=>y.length<=sizeLine/\n=y.length|.byt y=>y.size<=sizeLine/\n=y.size|.ref p=>(∃d,aW K H p d/\n=d.length)\/∃d,aS K H p d/\n=d.length|_=>False
def Fj:dG X (.builtin "len") (λi H Q=>∃x n,i=[x]/\LQ X.K x H n/\Q (.int n) H):=by
 intro w s B H i C Q I r h;obtain⟨x,n,rfl,e,q⟩:=h;obtain⟨u,rfl,k⟩:=k9 r;have D:=qz;have E:sizeLine=16777216:=ji;cases x with|str y=>obtain⟨t,rfl⟩:=k;obtain⟨z,j⟩:y.length<=sizeLine/\n=y.length:=e;subst j;show len_str (by lia) {.int _,H,I.tok _,{_,()},q}|byt y=>obtain⟨t,rfl⟩:=k;obtain⟨z,j⟩:y.size<=sizeLine/\n=y.size:=e;subst j;show PySem.W.len_bytes (by lia) {.int _,H,I.tok _,{_,()},q}|ref p=>
  cases k;have j:(∃i,aW X.K H p i/\n=i.length)\/∃i,aS X.K H p i/\n=i.length:=e;rcases j with⟨i,m,j⟩|⟨i,m,j⟩
  ·subst j;obtain⟨o,v,pl,A⟩:=I.list m;have d:=v.length;show Calls.call_len_list pl.isList (by simp only[md];lia) {.int i.length,H,I.tok _,{_,by simp only[md];rw[d]},q}
  ·subst j;obtain⟨o,v,pl,A⟩:=I.tuple m;have d:=v.length;show len_tuple pl (by simp only[md];lia) {.int i.length,H,I.tok _,{_,by simp only[md];rw[d]},q}|_=>show(show False from e).elim
def y9:dG X (.builtin "divmod") (λm H Q=>∃i j,m=[.int i,.int j]/\fI i j/\∀p,H p=none->Q (.ref p) (aH H p (.tup [.int (i/j),.int (i%j)]))):=by intro d s k H m n Q I r h;obtain⟨i,j,rfl,⟨h1,h2⟩,q⟩:=h;obtain⟨u,v,rfl,⟨t,rfl⟩,⟨w,rfl⟩⟩:=vo r;show divmod_int (by lia) ?_ (.inl (PyProof.noPylong_small (by lia)));rw[Nv i (by lia),Int.fmod_eq_emod_of_nonneg i (by lia)];have hn:H s.heap.objs.size=none:=I.hok.fresh (e_ _);show{.ref s.heap.objs.size,_,?_,(),q _ hn};show I.laid (λb o e=>c_ _ e) (e_ _) {by simp only[oi,N1];rw[ji];decide,[.int (i/j) s.toks,.int (i%j) (s.toks+1)],.cons {_,()} (.cons {_,()} .nil),?_};show{_,h_ s.heap (),(),0,()}
end
structure Ap(h:Heap)(x dx C:Addr)(mA:OI):Prop where
 obj:h.get? x=some (PySem.W.instObj C dx)ns:h.Ns1 dx mA
 ne:dx≠x
def B8{h:Heap}{dx:Addr}{f:OI}(n:h.Ns1 dx f):∃g,h.get? dx=some g/\∀c,PySem.W.lookIn c g=some (f c):=by
 obtain⟨o,d,m,i,hd,j,_,hm⟩:=n;show{o,i,λc=>?_};have e:=hm c;unfold nsFind findBy at e;rw[<-Array.find?_toList]at e;unfold PySem.W.lookIn;rw[hd];dsimp only
 split
 ·rename_i y q;rw[q]at e;show r_ some e
 ·rename_i q;rw[q]at e;have a:d.toList.any (·.refKey)=false:=by rw[Ol];intro y k;obtain⟨z,t,b⟩:=j y (Array.mem_toList_iff.mp k);simp[DictEntry.refKey,b]
  have l:¬d.toList.any (·.refKey)=true:=by rw[a];show kw
  rw[iA l];show r_ some e
def Ap.look(I:Ap h x dx C e):∃c,PySem.W.InstAt h x (PySem.W.instObj C dx) C (some c)/\∀a,PySem.W.lookIn a c=some (e a):=let⟨c,b,d⟩:=B8 I.ns
 {c,{I.obj,(),(),b},d}
section
variable{prog:OK}{w:World}{A:Around}{E:OG}{s:Shared}{K:OF}{x dx C f:Addr}{e:OI}{c:Str}{v:Value}
def Hb(X:K.In s.heap)(I:Ap s.heap x dx C e)(hg:PySem.W.plainGet K C c=true)(hh:PySem.W.hasDictIn K C=true)(i:PySem.W.findIn K (.ref C) c=some none)(j:e c=some v)(a:PySem.W.handedIn v=true)(h:Q v {s with toks:=s.toks+1}):wpAny (model prog w) A (getAttr (.ref x) c g) Q E s:=by obtain⟨d,J,b⟩:=I.look;show PySem.W.get_value X J (PySem.W.plainGet_of hg).1 (PySem.W.findObj_own hh i () (by rw[b,j])) a h
def EV(X:K.In s.heap)(I:Ap s.heap x dx C e)(hg:PySem.W.plainGet K C c=true)(a:PySem.W.findIn K (.ref C) c=some (some (.ref f)))(g:PySem.W.isFn K (.ref f)=true)(i:e c=none)(h:Q (.ref f,[.ref x]) s):wpAny (model prog w) A (getMethod (.ref x) c pl) Q E s:=by obtain⟨b,J,d⟩:=I.look;show PySem.W.method_fn X J (PySem.W.plainGet_of hg).1 (PySem.W.plainGet_of hg).2 a (beq_iff_eq.mp g) (by change(PySem.W.lookIn c b).map (·.isSome)=some false;rw[d,i];rfl) h
def hE(X:K.In s.heap)(I:Ap s.heap x dx C e)(m:PySem.W.findIn K (.ref C) "__setattr__"=some (some (.builtin "object.__setattr__")))(n:PySem.W.plainOver K C=true)(o:PySem.W.takerIn K C c=some none)(hh:PySem.W.hasDictIn K C=true)(p:PySem.Within e ns)(q:ns.length<=sizeLine)(h:∀h',Ap h' x dx C (λy=>if y=c then some v else e y)->Heap.SameBut dx s.heap h'->Q Unit.unit {s with heap:=h',toks:=s.toks+2}):wpAny (model prog w) A (setAttr (.ref x) c v) Q E s:=by obtain⟨B,J,D⟩:=I.look;show PySem.W.set_plain X J m (PySem.W.osa_open (s:={s with toks:=s.toks+1}) (r:=none) X J n o λb=>?_);obtain⟨cd,hc,i⟩:=PySem.W.any_some hh;have t:s.heap.get? x=some {.ref C,some dx,.plain,#[]}:=I.obj;show a_ (f_ (a_ (a_ (wpAny_loadPart t (a_ (PySem.W.Looks.here (s:={s with toks:=s.toks+1}) (PySem.W.looks_clsIn X hc) ?_))))));rw[i];show f_ (a:=some dx) (a_ (f_ (a_ ?_)));show wpAny_nsSet1 (s:={s with toks:=s.toks+1}) I.ns λh' d g=>?_;obtain⟨F,u,z,j,k,l⟩:=d.count (PySem.Within.cons c v p);show a_ (wpAny_lookBehind j (by rw[k];show pastItsLine_dict (lm l (by rw[oi];lia))) ?_);show f_ (h _ {(g.2 _ (o8 I.ne)).trans I.obj,d,I.ne} g)
def Em(X:K.In s.heap)(hm:PySem.W.makesIn K C=true)(hi:PySem.W.findIn K (.ref C) "__init__"=some (some (.ref f)))(j:PySem.W.typeIn K (.ref f)=some (.type "function"))(h:codeAny (model prog w) (A.under (.builtin "type.__call__" {.ref C::a,i})) (.call (.ref f) {.ref (s.heap.objs.size+1)::a,i}) (PySem.W.InitBack (s.heap.objs.size+1) R) {s with heap:=(s.heap.push PySem.W.emptyDict).push (PySem.W.instObj C s.heap.objs.size)}):codeAny (model prog w) A (.call (.ref C) (a,i,)) R s:=by obtain⟨hh,g,d,t,os⟩:=s;show PySem.W.make_core (PySem.W.makes_of X hm) (PySem.W.looks_findIn X hi) (λself=>PySem.W.bind_fn X self j) (.inl ()) h
end
noncomputable def gy(f:Str)(v:V):List (Str×V)->List (Str×V)|[]=>[(f,v)]|(g,x)::r=>if g=f then(g,v)::r else(g,x)::gy f v r
theorem rh(f g:Str)(v:V):∀fs:List (Str×V),(gy f v fs).lookup g=if g=f then some v else fs.lookup g
 |[]=>by
  change List.lookup g [(f,v)]=_
  by_cases h:g=f
  ·have a:(g==f)=true:=beq_iff_eq.mpr h;simp only[List.lookup,a,i_ h]
  ·have a:(g==f)=false:=E1.mpr h;simp only[List.lookup,a,iA h]|(k,x)::r=>by
  have c:=rh f g v r;rw[show gy f v ((k,x)::r)=(if k=f then(k,v)::r else(k,x)::gy f v r)from ()]
  by_cases b:k=f
  ·rw[i_ b]
   by_cases h:g=k
   ·have a:(g==k)=true:=beq_iff_eq.mpr h;simp only[List.lookup,a,i_ (h.trans b)]
   ·have a:(g==k)=false:=E1.mpr h;simp only[List.lookup,a,iA (λe:g=f=>h (e.trans b.symm))]
  ·rw[iA b]
   by_cases h:g=k
   ·have a:(g==k)=true:=beq_iff_eq.mpr h;simp only[List.lookup,a,iA (λe:g=f=>b (h.symm.trans e))]
   ·have a:(g==k)=false:=E1.mpr h;simp only[List.lookup,a];show c
theorem qB(f:Str)(v:V):∀fs:List (Str×V),f∈(gy f v fs).map (·.1)/\∀g,g∈fs.map (·.1)->g∈(gy f v fs).map (·.1)
 |[]=>{by simp[gy],λg h=>by simp at h}|(k,x)::r=>by
  obtain⟨b,c⟩:=qB f v r;rw[show gy f v ((k,x)::r)=(if k=f then(k,v)::r else(k,x)::gy f v r)from ()]
  by_cases a:k=f
  ·rw[i_ a];subst a;show{by simp,λg h=>by simpa using h}
  ·rw[iA a];show{?_,λg h=>?_}
   ·rw[n_];show j_ _ b
   ·rw[n_]at h⊢;rcases so.mp h with e|e
    ·show so.mpr (.inl e)
    ·show j_ _ (c g e)
theorem rj(f:Str)(v:V):∀fs:List (Str×V),(gy f v fs).length<=fs.length+1
 |[]=>by simp[gy]|(k,x)::r=>by
  have b:=rj f v r;rw[show gy f v ((k,x)::r)=(if k=f then(k,v)::r else(k,x)::gy f v r)from ()]
  by_cases a:k=f
  ·rw[i_ a,oi,oi];lia
  ·rw[iA a,oi,oi];lia
def kK.some_of(r:kK (some v) o):∃u,o=some u/\a0 v u:=by cases o with|none=>show(show False from r).elim|some u=>show{u,(),r}
def kK.none_of(r:kK none o):o=none:=by cases o with|none=>rfl|some u=>show(show False from r).elim
def Cg(r:a0 v u):PySem.W.handedIn u=true:=by cases v with|non=>cases(show u=Value.none from r);rfl|bl b=>cases(show u=Value.bool b from r);rfl|int i=>obtain⟨t,e⟩:=(show∃t,u=Value.int i t from r);cases e;rfl|str x=>obtain⟨t,e⟩:=(show∃t,u=Value.str x t from r);cases e;rfl|byt b=>obtain⟨t,e⟩:=(show∃t,u=Value.bytes b t from r);cases e;rfl|flt b=>obtain⟨t,e⟩:=(show∃t,u=Value.float b t from r);cases e;rfl|ref a=>cases(show u=Value.ref a from r);rfl|ty n=>cases(show u=Value.type n from r);rfl
section
variable{P:OK}{w:World}{H:Hp}{h:Heap}{a C dx:Addr}{fs:List (Str×V)}
def sH(hok:lG P w H h)(e:H a=some (.ins C dx fs)):∃i,Ap h a dx C i/\(∀f,kK (fs.lookup f) (i f))/\PySem.Within i (fs.map (·.1))/\fs.length<=1000/\H dx=some (.own a):=by obtain⟨d,z,ne,ob,i,n,r,q⟩:=(show c8 P w H h a (.ins C dx fs)from hok a _ e);show{i,(ob,n,ne,),r,q,z,d}
end
structure xH(K:OF)(C:Addr):Prop where
 pg:PySem.W.plainGet K C Str.empty=true
 hd:PySem.W.hasDictIn K C=true
 po:PySem.W.plainOver K C=true
 sa:PySem.W.findIn K (.ref C) "__setattr__"=some (some (.builtin "object.__setattr__"))
def xH.get{K:OF}{C:Addr}(c:xH K C)(f:Str):PySem.W.plainGet K C f=true:=c.pg
def ca(K:OF)(C:Addr)(f:Str):Prop:=PySem.W.findIn K (.ref C) f=some none
def ca.taker{K:OF}{C:Addr}{f:Str}(n:ca K C f):PySem.W.takerIn K C f=some none:=by unfold PySem.W.takerIn;rw[show PySem.W.findIn K (.ref C) f=some none from n];rfl
structure FA(K:OF)(C:Addr)(m:Str)(f:Addr):Prop where
 at_:PySem.W.findIn K (.ref C) m=some (some (.ref f))fn:PySem.W.isFn K (.ref f)=true
 kp:PySem.W.keepIn K (.ref f)=true
section
variable{X:Cx}{i:OH}{j:St}{H:Hp}{s:Shared}{a C dx:Addr}{fs:List (Str×V)}{f:Str}{v:V}{A:Around}{E:OG}
def z9(I:aN X i j H s)(e:H a=some (.ins C dx fs))(c:xH X.K C)(n:ca X.K C f)(l:fs.lookup f=some v)(h:∀u g,aN X i j H g->a0 v u->Q u g):wpAny (model X.prog X.w) A (getAttr (.ref a) f b) Q E s:=by obtain⟨d,O,r,_,_,_⟩:=sH I.hok e;obtain⟨u,k,ru⟩:=kK.some_of (v:=v) (o:=d f) (by rw[<-l];show r f);show Hb I.kIn O (c.get f) c.hd n k (Cg ru) (h u _ (I.tok _) ru)
def oG(I:aN X i j H s)(e:H a=some (.ins C dx fs))(c:xH X.K C)(k:FA X.K C m g)(l:fs.lookup m=none)(h:Q (.ref g,[.ref a]) s):wpAny (model X.prog X.w) A (getMethod (.ref a) m pl) Q E s:=by obtain⟨b,O,r,_,_,_⟩:=sH I.hok e;have hn:b m=none:=kK.none_of (by rw[<-l];show r m);show EV I.kIn O (c.get m) k.at_ k.fn hn h
def zt(I:aN X i j H s)(e:H a=some (.ins C dx fs))(c:xH X.K C)(n:ca X.K C f)(J:fs.length<1000)(B:a0 y u)(h:∀l,aN X i j (aH H a (.ins C dx (gy f y fs))) l->Q Unit.unit l):wpAny (model X.prog X.w) A (setAttr (.ref a) f u) Q E s:=by
 obtain⟨k,O,r,m,_,p⟩:=sH I.hok e;have t:(fs.map (·.1)).length<=sizeLine:=by rw[b_,ji];lia
 show hE I.kIn O c.sa c.po n.taker c.hd m t λh' d D=>h _ ?_;have hd:∃o,h'.get? dx=some o:=let⟨o,_,_,F,_⟩:=d.ns;(o,F,);show I.write (x:=a) (e:=dx) (by rw[e];show True.intro) (.inr p) (λb q G z=>(D.2 b G).trans z) hd ?_;show{by rw[aq O.ne];show p,?_,O.ne,d.obj,_,d.ns,λg=>?_,λg hg=>?_}
 ·have:=rj f y fs;lia
 ·change kK ((gy f y fs).lookup g) (if g=f then some u else k g);rw[rh]
  by_cases q:g=f
  ·rw[i_ q,i_ q];show B
  ·rw[iA q,iA q];show r g
 ·by_cases q:g=f
  ·rw[q];show(qB f y fs).1
  ·show(qB f y fs).2 g (m g λz=>hg ?_);change(if g=f then some u else k g)=none;rw[iA q];show z
def aN.made(I:aN X i j H s):aN X i j (aH (aH H s.heap.objs.size (.own (s.heap.objs.size+1))) (s.heap.objs.size+1) (.ins C s.heap.objs.size [])) {s with heap:=(s.heap.push PySem.W.emptyDict).push (PySem.W.instObj C s.heap.objs.size)}:=by
 have c:(s.heap.push PySem.W.emptyDict).get? s.heap.objs.size=some PySem.W.emptyDict:=h_ s.heap ();have d:((s.heap.push PySem.W.emptyDict).push (PySem.W.instObj C s.heap.objs.size)).get? (s.heap.objs.size+1)=some (PySem.W.instObj C s.heap.objs.size):=by
  have:=h_ (s.heap.push PySem.W.emptyDict) (o:=PySem.W.instObj C s.heap.objs.size) ()
  rwa[p_]at this
 have g:(s.heap.push PySem.W.emptyDict).Ns s.heap.objs.size (λ_=>none):={PySem.W.emptyDict,#[],_,c,(),(λe h=>absurd h (by simp)),λ_=>()};have I1:=I.laid (a:=s.heap.objs.size) (o:=.own (s.heap.objs.size+1)) (h':=s.heap.push PySem.W.emptyDict) (t':=s.toks) (λb u q=>c_ _ q) (e_ _) {_,c};show I1.laid (a:=s.heap.objs.size+1) (o:=.ins C s.heap.objs.size []) (t':=s.toks) (λb u q=>c_ _ q) (MY (p_ _ _)) ?_;have ne:s.heap.objs.size≠s.heap.objs.size+1:=m3 (wh _);show{by rw[aq ne,ag],np _,ne,d,λ_=>none,(Heap.Ns1.of_empty g).at λo q=>c_ _ q,λ_=>True.intro,λy l=>absurd () l}
def Hn(c:attributeBase e f env (eval e env)=eval e env)(h:wpAny (model prog w) A (eval e env) (λo s₁=>wpAny (model prog w) A (getAttr o f true) Q E s₁) E s):wpAny (model prog w) A (eval (.Attribute e f g) env) Q E s:=Attribute_any_ h (by rw[arm_eval_Attribute,c])
end
def KH(K:OF)(c:TE)(f:Str):TE:=λd H Q=>c d H λx b=>∃a C dx fs v,x=.ref a/\b a=some (.ins C dx fs)/\xH K C/\ca K C f/\fs.lookup f=some v/\Q v b
def KY(K:OF)(e g:TE)(f:Str):TS:=λD b H=>g b H λy d=>e b d λx c=>∃a C dx fs,x=.ref a/\c a=some (.ins C dx fs)/\xH K C/\ca K C f/\fs.length<1000/\D.nx b (aH c a (.ins C dx (gy f y fs)))
section
variable{X:Cx}{o e g:Expr}{f:Str}{j i:Pos}{m p:TE}
def Ji(w:PE X e m)(y:attributeBase e f X.env (eval e X.env)=eval e X.env):PE X (.Attribute e f j) (KH X.K m f):=by intro b s d H Q I h;show Hn y (cw (w b s d H _ I h) λu D k=>?_);obtain⟨x,t,I1,z,a,C,dx,fs,v,ex,A,c,n,l,q⟩:=k;subst ex;obtain rfl:u=Value.ref a:=z;show z9 I1 A c n l λE F B ru=>(v,t,B,ru,q,)
def Jd(v:PE X o m)(w:PE X g p)(z:swapsWith g (some (.Attribute o f i)) j.line X.env=pure false):PS X (.Assign [.Attribute o f i] g j) (KY X.K m p f):=by intro b s d H D I h;show plainObj_wpAny_Assign_Attribute (cw (w b s d H _ I h) λu k⟨y,t,I1,A,q⟩=>cw (v b k d t _ I1 q) λB M⟨x,N,E,F,a,C,dx,fs,ex,G,c,n,l,J⟩=>?_) z;subst ex;obtain rfl:B=Value.ref a:=F;show zt E G c n l A λO L=>{d,_,L,J}
end
section
variable{X:Cx}{f:OH}{g:St}{H:Hp}{s:Shared}{A:Around}{E:OG}{Q:OG}{c:Value}{b:Bool}
inductive kJ(K:OF)(H:Hp):V->Value->Prop where|non:kJ K H .non (.type "NoneType")|bl(x:Bool):kJ K H (.bl x) (.type "bool")|int(i:Int):kJ K H (.int i) (.type "int")|str(x:Str):kJ K H (.str x) (.type "str")|flt(x:UInt64):kJ K H (.flt x) (.type "float")|lst{a:Addr}{xs:List V}(e:H a=some (.lst xs)):kJ K H (.ref a) (.type "list")|frz{a:Addr}{o:Obj}{xs:List V}(e:H a=some (.frz o (.lst xs))):kJ K H (.ref a) (.type "list")|tup{a:Addr}{xs:List V}(e:H a=some (.tup xs)):kJ K H (.ref a) (.type "tuple")|dK{a:Addr}{kvs:List (bK×V)}(e:H a=some (.dK kvs)):kJ K H (.ref a) (.type "dict")|dT{a:Addr}{kvs:List (List bK×V)}(e:H a=some (.dT kvs)):kJ K H (.ref a) (.type "dict")|ins{a C dx:Addr}{fs:List (Str×V)}(e:H a=some (.ins C dx fs))(cl:xH K C)(ha:PySem.W.findIn K (.ref C) "__class__"=some (some (.builtin "object.__class__")))(hn:PySem.W.specialIn K (.builtin "object.__class__") "__get__"=some (some (.builtin "getset_descriptor.__get__")))(htk:PySem.W.takesIn K (.builtin "object.__class__")=some true)(hm:PySem.W.mroIn K C (.type "object")=some true):kJ K H (.ref a) (.ref C)
def Cd(I:aN X f g H s)(j:a0 x u)(ty:kJ X.K H x t)(e:PySem.W.kitOne X.K t c=some b)(h:∀tk,Q (.bool b) {s with toks:=tk}):wpAny (model X.prog X.w) A (call (.builtin "isinstance") [u,c]) Q E s:=by cases ty with|non=>cases(show u=Value.none from j);show PySem.W.kia_one PySem.W.kitx_none I.kIn True.intro e (nofun) h|bl y=>cases(show u=Value.bool y from j);show PySem.W.kia_one PySem.W.kitx_bool I.kIn True.intro e (nofun) h|int i=>obtain⟨t,q⟩:=(show∃t,u=Value.int i t from j);cases q;show PySem.W.kia_one PySem.W.kitx_int I.kIn True.intro e (nofun) h|str y=>obtain⟨t,q⟩:=(show∃t,u=Value.str y t from j);cases q;show PySem.W.kia_one PySem.W.kitx_str I.kIn True.intro e (nofun) h|flt y=>obtain⟨t,q⟩:=(show∃t,u=Value.float y t from j);cases q;show PySem.W.kia_one PySem.W.kitx_float I.kIn True.intro e (nofun) h|@lst a l d=>cases(show u=Value.ref a from j);obtain⟨_,_,n,_,h1⟩:=(show c8 X.prog X.w H s.heap a (.lst l)from I.hok a _ d);show PySem.W.kia_one PySem.W.kitx_list I.kIn {_,h1,()} e (nofun) h|@frz a ob l d=>cases(show u=Value.ref a from j);obtain⟨_,_,_,n,_,h1⟩:=(show c8 X.prog X.w H s.heap a (.frz ob (.lst l))from I.hok a _ d);show PySem.W.kia_one PySem.W.kitx_list I.kIn {_,h1,()} e (nofun) h|@tup a l d=>cases(show u=Value.ref a from j);obtain⟨_,_,_,p⟩:=(show c8 X.prog X.w H s.heap a (.tup l)from I.hok a _ d);obtain⟨o,h1,h2,_⟩:=p;show PySem.W.kia_one PySem.W.kitx_tuple I.kIn (o,h1,h2,) e (nofun) h|@dK a k d=>cases(show u=Value.ref a from j);obtain⟨_,_,D,_,p⟩:=(show c8 X.prog X.w H s.heap a (.dK k)from I.hok a _ d);obtain⟨o,r,v,h1,h2,_⟩:=p;show PySem.W.kia_one PySem.W.kitx_dict I.kIn (o,h1,h2.1,) e (nofun) h|@dT a k d=>cases(show u=Value.ref a from j);obtain⟨_,_,l,_,o,r,v,h1,h2,_⟩:=(show c8 X.prog X.w H s.heap a (.dT k)from I.hok a _ d);show PySem.W.kia_one PySem.W.kitx_dict I.kIn (o,h1,h2.1,) e (nofun) h|@ins a C dx fs d cl B hn m hm=>cases(show u=Value.ref a from j);obtain⟨F,O,_⟩:=sH I.hok d;obtain⟨G,J,_⟩:=O.look;show PySem.W.kia_one (PySem.W.kitx_own (cl.get _) cl.hd B hn m hm) I.kIn J e (nofun) h
end
structure eZ(k:Nat)(A:Around):Prop where
 hd:A.handled=none
 dp:A.depth+3*k+5<recursionLimit
 un:A.units+16*k+200<cLine
def eZ.mono{j k:Nat}{A:Around}(r:eZ k A)(h:j<=k):eZ j A:={r.hd,by have:=r.dp;lia,by have:=r.un;lia}
theorem eZ.deeper(r:eZ (k+1) A)(env:Env):eZ k (A.deeper env):={r.hd,by have:=r.dp;change A.depth+1+3*k+5<_;lia,by have:=r.un;change A.units+3+16*k+200<_;lia}
def zT{A:Around}{C:Addr}{a:OJ}{c:List (Str×Value)}:(A.under (.builtin "type.__call__" {.ref C::a,c})).depth=A.depth+1:=by first|rfl|simp[Around.under,Code.weight,Code.isCreation,Code.isGuard,Code.isCaller,Code.frames,Code.isFrame,guardIds]
def zS{A:Around}{C:Addr}{a:OJ}{c:List (Str×Value)}:(A.under (.builtin "type.__call__" {.ref C::a,c})).units=A.units+1:=by first|rfl|simp[Around.under,Code.cUnits,Code.frames,Code.isFrame]
def eZ.make(r:eZ (k+1) A)(C:Addr)(a:OJ)(c:List (Str×Value)):eZ k (A.under (.builtin "type.__call__" {.ref C::a,c})):={r.hd,by have:=r.dp;rw[zT];lia,by have:=r.un;rw[zS];lia}
theorem eZ.depth{k:Nat}{A:Around}(r:eZ k A):A.depth<recursionLimit:=by have:=r.dp;lia
theorem eZ.units{k:Nat}{A:Around}(r:eZ k A):A.units+64<cLine:=by have:=r.un;lia
def Ir:TA:=λ_ H Q=>Q [] H
def HG(c:TE)(tr:TA):TA:=λa H Q=>c a H λx b=>tr a b λd e=>Q (x::d) e
section
variable{X:Cx}{e:Expr}{c:OM}{te:TE}{t:TA}{a:Pos}
def ae:PA X [] Ir:=λ_ _ _ _ H Q I h=>B_ {[],H,I,.nil,h}
def O(g:PE X e te)(i:PA X c t)(j:starEach (e::c) X.env=(false,eval e X.env)::starEach c X.env:=by rfl):PA X (e::c) (HG te t):=by intro a b s f H Q I h;rw[j];change wpAny _ _ (spliced ((false,eval e X.env)::backTo a (starEach c X.env))) _ _ s;show th (cw (g b s f H _ I h) λu k d=>?_);obtain⟨x,l,I1,m,n⟩:=d;show cw (i a b k f l _ I1 n) λv w d=>?_;obtain⟨o,p,q,r2,r⟩:=d;show{x::o,p,q,.cons m r2,r}
def L6(t:TA):TE:=λf H Q=>t f H λb d=>b.length<=sizeLine/\∀p,d p=none->Q (.ref p) (aH d p (.tup b))
def Iw(t:TA):TE:=λf H Q=>t f H λb d=>b.length<=sizeLine/\∀p,d p=none->Q (.ref p) (aH d p (.lst b))
def aO{i}(h:PA X c t):PE X (.Tuple c i a) (L6 t):=by intro d s j H Q I k;show wpAny_Tuple_spliced (cw (h a d s j H _ I k) λl f m=>?_);obtain⟨n,g,I1,r,z,q⟩:=m;show{by rw[<-r.length];show z,?_};have o:g f.heap.objs.size=none:=I1.hok.fresh (e_ _);show{.ref f.heap.objs.size,aH g f.heap.objs.size (.tup n),I1.laid (t':=f.toks) (λb u e=>c_ _ e) (e_ _) ?_,(),q _ o};show{z,l,r,{_,h_ _ (),(),_,()}}
def bf(h:PA X c t):PE X (.List c a) (Iw t):=by intro d s i H Q I j;show wpAny_List_spliced (cw (h a d s i H _ I j) λk f l=>?_);obtain⟨m,g,I1,r,z,q⟩:=l;show{by rw[<-r.length];show z,?_};have n:g f.heap.objs.size=none:=I1.hok.fresh (e_ _);show{.ref f.heap.objs.size,aH g f.heap.objs.size (.lst m),I1.laid (t':=f.toks) (λb u e=>c_ _ e) (e_ _) ?_,(),q _ n};show{z,k,0,r,h_ _ ()}
end
abbrev Sp:=List V->Hp->VK->XK->Prop
abbrev zi:=List Env->Hp->Shared->XK->Value->Shared->Prop
structure Aw(P:OK)(w:World)(K:OF)(mg:OI)(base:Heap)(A:Around)(outer:List Env)(s:Shared)(H:Hp):Prop where
 frames:A.frames=some outer
 mod:LP K mg base
 bs:∀b o,base.get? b=some o->s.heap.get? b=some o/\H b=none
 bsz:base.objs.size<=s.heap.objs.size
 funs:s.heap.FunFrames base outer
 frf:∀b∈jU outer,H b=none
 hok:lG P w H s.heap
 bare:AllBare s.gens
def CE(outer:List Env)(P:OK)(w:World)(H:Hp)(s:Shared)(Q:VK)(u:Value)(a:Shared):Prop:=∃v b,a.os=s.os/\AllBare a.gens/\Un (jU outer) [] H b s.heap a.heap/\lG P w b a.heap/\a0 v u/\Q v b
def CR(c:zi)(outer:List Env)(P:OK)(w:World)(H:Hp)(s:Shared)(Q:VK)(E:XK)(r:Result)(a:Shared):Prop:=match r with|.ok (.ret u)=>CE outer P w H s Q u a|.ok _=>False|.error e=>c outer H s E e a
structure aT(P:OK)(w:World)(K:OF)(mg:OI)(base:Heap)(CX:zi)(k:Nat)(f:Addr)(fd:FuncData)(ps:OL)(sp:Sp):Prop where
 len:∀vs H Q E,sp vs H Q E->vs.length=ps.length
 run:∀(A:Around)(outer:List Env)(s:Shared)(H:Hp)(args:Args)(us:OJ)(vs:List V)(Q:VK)(E:XK),eZ k A->Aw P w K mg base A outer s H->BindsTo s fd args (ps.zip us)->be vs us->sp vs H Q E->codeAny (model P w) A (.call (.ref f) args) (CR CX outer P w H s Q E) s
theorem aT.mono{P:OK}{w:World}{K:OF}{mg:OI}{base:Heap}{c:zi}{j k:Nat}{f:Addr}{fd:FuncData}{e:OL}{sp:Sp}(F:aT P w K mg base c j f fd e sp)(h:j<=k):aT P w K mg base c k f fd e sp:={F.len,λA outer s H a b d Q E g=>F.run A outer s H a b d Q E (g.mono h)}
def Aw.make{P:OK}{w:World}{K:OF}{mg:OI}{base:Heap}{A:Around}{outer:List Env}{s:Shared}{H:Hp}(e:Aw P w K mg base A outer s H)(C:Addr)(a:OJ)(c:List (Str×Value)):Aw P w K mg base (A.under (.builtin "type.__call__" {.ref C::a,c})) outer s H:={by first|show e.frames|(simpa[Around.under,Code.envs,Code.isFrame,pushEnvs]using e.frames),e.mod,e.bs,e.bsz,e.funs,e.frf,e.hok,e.bare}
section
variable{X:Cx}{a:OH}{c:St}{H:Hp}{s e:Shared}
def aN.env0(I:aN X a c H s):Aw X.prog X.w X.K X.mg X.base X.A X.stack s H:={I.ok.frames,I.ok.mod,I.bs,lm I.ok.bsz I.sz,I.stack,I.stkFree,I.hok,I.bare}
def aN.after(I:aN X a c H s)(h:CE X.stack X.prog X.w H s Q u e):EP X a c Q u e:=by obtain⟨v,i,os,bare,un,hok,r,q⟩:=h;obtain⟨hh,g,d,t,f⟩:=e;obtain rfl:f=s.os:=os;show{v,i,I.call (h':=hh) (g':=g) (d':=d) (t':=t) (ch:=[]) un hok bare (λb z=>absurd z (by simp)),r,q}
end
def HH(sp:Sp)(a:List V)(E:XK)(t:TA):TE:=λb H Q=>t b H λc d=>sp (c++a) d Q E
def CT(C:Addr)(m:Str)(sp:Sp)(c:List V)(E:XK)(e:TE)(t:TA):TE:=λb H Q=>e b H λx d=>∃a dx fs,x=.ref a/\d a=some (.ins C dx fs)/\fs.lookup m=none/\t b d λf g=>sp (x::(f++c)) g Q E
def KF(C:Addr)(sp:Sp)(a:List V)(E:XK)(t:TA):TE:=λc H Q=>t c H λd b=>∀x dx,b x=none->b dx=none->dx≠x->sp (.ref x::(d++a)) (aH (aH b dx (.own x)) x (.ins C dx [])) (λv e=>v=.non/\Q (.ref x) e) E
def fZ(K:OF)(fd:FuncData)(c:OL)(ds:OJ):Prop:=∀(s:Shared)(a:OJ),K.In s.heap->(a++ds).length=c.length->BindsTo s fd {a,[]} (c.zip (a++ds))
def fZ.all{K:OF}{fd:FuncData}{c:OL}(h:∀a:List Value,a.length=c.length->bindArgs fd {a,[]}=pure (c.zip a)):fZ K fd c []:=λs a _ b=>by rw[pv]at b⊢;show .of_eq (h a b)
def mG(c:zi)(X:Cx)(E:XK):Prop:=∀(a:OH)(d:St)(H:Hp)(s:Shared)(e:Value)(b:Shared),aN X a d H s->c X.stack H s E e b->X.xe e b
section
variable{X:Cx}{z:zi}{k:Nat}{f C:Addr}{fd:FuncData}{y:OL}{sp:Sp}{i:List V}{ds:OJ}{E:XK}{x m:Str}{p g j:Pos}{e o:Expr}{n:OM}{B:TE}{t:TA}
def zy(F:aT X.prog X.w X.K X.mg X.base z k f fd y sp)(l:eZ k X.A)(q:fZ X.K fd y ds)(hd:be i ds)(v:mG z X E)(I:aN X a c H s)(r:be vs us)(h:sp (vs++i) H Q E):wpAny (model X.prog X.w) X.A (call (.ref f) us) (EP X a c Q) X.xe s:=by
 have r2:be (vs++i) (us++ds):=r.append hd;have d:(us++ds).length=y.length:=by rw[<-r2.length];show F.len _ _ _ _ h
 show wpAny_call (MJ (F.run X.A X.stack s H {us,[]} (us++ds) (vs++i) Q E l I.env0 (q s us I.kIn d) r2 h) λr D b=>?_);cases r with|error e=>show v a c H s e D I b|ok G=>cases G with|ret u=>show I.after b|next=>show False.elim b|brk=>show False.elim b|cont=>show False.elim b
def aP(F:aT X.prog X.w X.K X.mg X.base z k f fd y sp)(u:eZ k X.A)(hg:Gl X x)(hm:X.mg x=some (.ref f))(v:PySem.W.keepIn X.K (.ref f)=true)(D:fZ X.K fd y ds)(hd:be i ds)(G:mG z X E)(J:PA X (e::n) t)(c:(x==("__debug__":Str))=false:=by decide)(L:starEach (e::n) X.env=(false,eval e X.env)::starEach n X.env:=by rfl)(l:(backTo g (starEach n X.env)).any (·.1)=false:=by rfl):PE X (.Call (.Name x p) (e::n) [] g) (HH sp i E t):=by intro a s d H Q I h;show y3 (pS I hg hm ?_ c);show PySem.W.callWith_K (h₀:=X.base) I.ok.mod.kin v (cw (J g a s d H _ I h) λM N⟨O,P,I1,r,q⟩=>{I1.kIn,?_}) L l;show zy F u D hd G I1 r q
def bw(P:PE X o B)(c:xH X.K C)(hm:FA X.K C m f)(F:aT X.prog X.w X.K X.mg X.base z k f fd y sp)(R:eZ k X.A)(S:fZ X.K fd y ds)(hd:be i ds)(T:mG z X E)(Z:PA X (e::n) t)(v:starEach (e::n) X.env=(false,eval e X.env)::starEach n X.env:=by rfl)(D:(backTo g (starEach n X.env)).any (·.1)=false:=by rfl)(ht:eval (.Call (.Attribute o m j) (e::n) [] g) X.env=(do
   let G<-eval o X.env
   standAt j.atName let(f,first)<-holding [G] (getMethod G m pl)callWith g f first (backTo g (starEach (e::n) X.env)) (backToKw g (keywordEach [] X.env))):=by rfl):PE X (.Call (.Attribute o m j) (e::n) [] g) (CT C m sp i E B t):=by intro b s d H Q I h;show PySem.W.methodCall_KW (pl:=pl) (cw (P b s d H _ I h) λu O⟨x,U,I1,Y,a,dx,fs,ex,ea,l,q⟩=>?_) ht;subst ex;obtain rfl:u=Value.ref a:=Y;show oG I1 ea c hm l ?_;show PySem.W.callWith_K (first:=[.ref a]) (h₀:=X.base) I.ok.mod.kin hm.kp (cw (Z g b O d U _ I1 q) λL s2⟨M,H2,N,r,q2⟩=>{N.kIn,?_}) v D;show zy (us:=.ref a::L) (vs:=.ref a::M) F R S hd T N (.cons () r) q2
def yi(v:PE X o B)(c:xH X.K C)(hm:FA X.K C m f)(F:aT X.prog X.w X.K X.mg X.base z k f fd y sp)(D:eZ k X.A)(G:fZ X.K fd y ds)(hd:be i ds)(J:mG z X E)(L:eval (.Call (.Attribute o m j) [] [] g) X.env=(do
   let r<-eval o X.env
   standAt j.atName let(f,first)<-holding [r] (getMethod r m pl)callWith g f first (backTo g (starEach [] X.env)) (backToKw g (keywordEach [] X.env))):=by rfl):PE X (.Call (.Attribute o m j) [] [] g) (CT C m sp i E B Ir):=by intro b s d H Q I h;show PySem.W.methodCall_KW (pl:=pl) (cw (v b s d H _ I h) λu O⟨x,P,I1,M,a,dx,fs,ex,N,l,q⟩=>?_) L;subst ex;obtain rfl:u=Value.ref a:=M;show oG I1 N c hm l ?_;show PySem.W.callWith_K0 (first:=[.ref a]) I1.kIn hm.kp (zy (us:=[.ref a]) (vs:=[.ref a]) F D G hd J I1 (.cons () .nil) q)
structure Mk(K:OF)(C f:Addr):Prop where
 makes:PySem.W.makesIn K C=true
 init:PySem.W.findIn K (.ref C) "__init__"=some (some (.ref f))fn:PySem.W.isFn K (.ref f)=true
 kp:PySem.W.keepIn K (.ref C)=true
def DC(M:Mk X.K C f)(F:aT X.prog X.w X.K X.mg X.base z k f fd y sp)(G:eZ (k+1) X.A)(J:fZ X.K fd y ds)(hd:be i ds)(L:mG z X E)(I:aN X c q H s)(r:be D l)(h:∀x dx,H x=none->H dx=none->dx≠x->sp (.ref x::(D++i)) (aH (aH H dx (.own x)) x (.ins C dx [])) (λv N=>v=.non/\Q (.ref x) N) E):wpAny (model X.prog X.w) X.A (call (.ref C) l) (EP X c q Q) X.xe s:=by
 have d:=h (s.heap.objs.size+1) s.heap.objs.size (I.hok.fresh (sf _)) (I.hok.fresh (e_ _)) (m3 (wh _));have b:=aN.made (C:=C) I;have r2:be (V.ref (s.heap.objs.size+1)::(D++i)) (Value.ref (s.heap.objs.size+1)::(l++ds)):=.cons () (r.append hd);have O:(Value.ref (s.heap.objs.size+1)::l++ds).length=y.length:=by have e:=r2.length;rw[F.len _ _ _ _ d]at e;show e.symm
 show wpAny_call (Em (f:=f) I.kIn M.makes M.init (beq_iff_eq.mp M.fn) (MJ (F.run _ X.stack _ _ {Value.ref (s.heap.objs.size+1)::l,[]} (Value.ref (s.heap.objs.size+1)::(l++ds)) _ _ E (G.make C l []) (b.env0.make C l []) (J _ (Value.ref (s.heap.objs.size+1)::l) b.kIn O) r2 d) λr P a=>?_))
 cases r with|error e=>show L c q _ _ e P b a|ok R=>cases R with|ret u=>obtain⟨v,S,T,U,W,Y⟩:=b.after a;subst W;show{U,{V.ref (s.heap.objs.size+1),S,T,(),Y}}|next=>show False.elim a|brk=>show False.elim a|cont=>show False.elim a
def sE(M:Mk X.K C f)(F:aT X.prog X.w X.K X.mg X.base z k f fd y sp)(u:eZ (k+1) X.A)(hg:Gl X x)(hm:X.mg x=some (.ref C))(v:fZ X.K fd y ds)(hd:be i ds)(D:mG z X E)(G:PA X (e::n) t)(c:(x==("__debug__":Str))=false:=by decide)(J:starEach (e::n) X.env=(false,eval e X.env)::starEach n X.env:=by rfl)(l:(backTo g (starEach n X.env)).any (·.1)=false:=by rfl):PE X (.Call (.Name x p) (e::n) [] g) (KF C sp i E t):=by intro a s d H Q I h;show y3 (pS I hg hm ?_ c);show PySem.W.callWith_K (h₀:=X.base) I.ok.mod.kin M.kp (cw (G g a s d H _ I h) λL N⟨O,P,I1,r,q⟩=>{I1.kIn,?_}) J l;show DC M F u v hd D I1 r q
end
structure aB(N P:OL)(sc:Scope):Prop where
 kind:sc.kind=.function
 co:sc.isCoroutine=false
 gen:sc.isGenerator=false
 nd:N.Nodup
 pre:N.take P.length=P
 par:∀x∈P,sc.names.lookup x=some .local\/sc.names.lookup x=some .cell
 nofree:∀y∈sc.names,y.2≠.free
theorem wj{kindOf:Str->Option NameKind}{x:Str}:∀{binds:List (Str×Value)}{m:OI},(∀v,(x,v)∉binds)->bindL kindOf binds m x=m x
 |[],_,_=>()|(n,v)::r,m,h=>by
  unfold bindL;rw[wj λw a=>h w (j_ _ a)]
  split
  ·have:x≠n:=by rintro rfl;show h v mo
   simp[this]
  ·rfl
theorem wm{kindOf:Str->Option NameKind}{x:Str}:∀{binds:List (Str×Value)}{m:OI},(∀v,(x,v)∉binds)->bindC kindOf binds m x=m x
 |[],_,_=>()|(n,v)::r,m,h=>by
  unfold bindC;rw[wm λw a=>h w (j_ _ a)]
  split
  ·rfl
  ·have:x≠n:=by rintro rfl;show h v mo
   simp[this]
theorem wk{kindOf:Str->Option NameKind}{x:Str}{v:Value}:∀{P:OL}{a:OJ}{i:Nat}{m:OI},P.Nodup->P[i]?=some x->a[i]?=some v->kindOf x=some .local->bindL kindOf (P.zip a) m x=some v|[],_,_,_,_,h,_,_=>by simp at h|_::_,[],_,_,_,_,h,_=>by simp at h|p::P,w::a,0,m,nd,h1,h2,b=>by simp at h1 h2;subst h1;subst h2;change bindL kindOf ((p,w)::P.zip a) m p=_;unfold bindL;rw[wj λv c=>(NZ.mp nd).1 (MM c).1,i_ b];simp|p::P,w::a,i+1,m,nd,h1,h2,b=>by change bindL kindOf ((p,w)::P.zip a) m x=_;unfold bindL;show wk (i:=i) (NZ.mp nd).2 (by simpa using h1) (by simpa using h2) b
theorem wo{kindOf:Str->Option NameKind}{x:Str}{v:Value}:∀{P:OL}{a:OJ}{i:Nat}{m:OI},P.Nodup->P[i]?=some x->a[i]?=some v->kindOf x≠some .local->bindC kindOf (P.zip a) m x=some v|[],_,_,_,_,h,_,_=>by simp at h|_::_,[],_,_,_,_,h,_=>by simp at h|p::P,w::a,0,m,nd,h1,h2,b=>by simp at h1 h2;subst h1;subst h2;change bindC kindOf ((p,w)::P.zip a) m p=_;unfold bindC;rw[wm λv c=>(NZ.mp nd).1 (MM c).1,iA b];simp|p::P,w::a,i+1,m,nd,h1,h2,b=>by change bindC kindOf ((p,w)::P.zip a) m x=_;unfold bindC;show wo (i:=i) (NZ.mp nd).2 (by simpa using h1) (by simpa using h2) b
def iV(N:OL)(a:List V):St:=a.map some++List.replicate (N.length-a.length) none
noncomputable def qF(c:zi)(P:OK)(w:World)(K:OF)(mg:OI)(base:Heap)(N:OL)(a:Str)(scope:Scope)(f:Addr)(cd:Value)(A:Around)(outer:List Env)(s:Shared)(H:Hp)(E:XK):Cx where
 prog:=P
 w:=w
 K:=K
 mg:=mg
 base:=base
 A:=A.deeper (envOfC a scope s.heap.objs.size f cd)
 N:=N
 s₀:=s
 H₀:=H
 env:=envOfC a scope s.heap.objs.size f cd
 outer:=outer
 stack:=envOfC a scope s.heap.objs.size f cd::outer
 ex:=[]
 calm:=true
 fn:=λ_=>true
 pn:=[]
 xe:=λe d=>wpAny (model P w) (A.deeper (envOfC a scope s.heap.objs.size f cd)) (leaving (envOfC a scope s.heap.objs.size f cd) e) (λ_ b=>c outer H s E e b) (λg b=>c outer H s E g b) d
def y4{a:Scope}{n:Nat}{x:Str}(h:a.names.lookup x=some .cell):∃c,(cellsFrom n a.names []).lookup x=some c:=by have q:=PySem.W.cellsFrom_some a.names n [] (.inl h);show z3.mp q
def Ce{D:zi}{P:OK}{w:World}{K:OF}{mg:OI}{base:Heap}{N l:OL}{g:Str}{scope:Scope}{f:Addr}{cd:Value}{A:Around}{outer:List Env}{s F:Shared}{H:Hp}{E:XK}{C:OJ}{m:List V}(S:aB N l scope)(hd:A.handled=none)(j:Aw P w K mg base A outer s H)(Q:m.length=l.length)(r:be m C)(x:InCallC s s.heap.objs.size (bindL (envOfC g scope s.heap.objs.size f cd).kindOf (l.zip C) λ_=>none) (cellsFrom (s.heap.objs.size+1) scope.names []) (bindC (envOfC g scope s.heap.objs.size f cd).kindOf (l.zip C) λ_=>none) F):aN (qF D P w K mg base N g scope f cd A outer s H E) [] (iV N m) H F:=by
 have J:l.length<=N.length:=by have:=r_ List.length S.pre;rw[oa]at this;lia
 obtain⟨h1,tk,rfl,G⟩:=x.done;have d:∀b:Addr,b∉(qF D P w K mg base N g scope f cd A outer s H E).ex:=λb z=>absurd (show b∈([]:OP)from z) (by simp);show{{j.mod,S.kind,(),(),e_ _,λy z c h1 h2=>?_,λy o=>?_,λy c _ h=>?_,λ_=>hd,Around.frames_deeper j.frames,.inr {(),()},λb z=>absurd z (d b),j.bs,j.bsz,λb _ _=>d b,λb z=>absurd z (d b),j.funs,j.frf},(),j.bare,Un.kept G,{_,x.toInCall.ns,λi y v h1 h2 h3=>?_},λy c h=>{_,x.cell y c h},j.hok.fresh (e_ _),λy c h=>?_,λp t=>absurd (show p∈([]:OH)from t) (by simp),j.hok.kept G,?_}
 ·show name_of_addr x.apart (PySem.mem_of_lookup h1) (PySem.mem_of_lookup h2)
 ·have o:scope.names.lookup y=some .cell\/scope.names.lookup y=some .free:=o;rcases o with o|o
  ·show y4 o
  ·show absurd () (S.nofree _ (PySem.mem_of_lookup o))
 ·show z4 (x.above y c (PySem.mem_of_lookup h))
 ·have hi:i<m.length:=by
   unfold iV at h2
   by_cases hi:i<m.length
   ·show hi
   ·rw[G_ (by simpa using hi)]at h2;rw[List.getElem?_replicate]at h2
    split at h2<;>cases h2
  have L:m[i]?=some v:=by unfold iV at h2;rw[t6 (by simpa using hi),ig]at h2;cases e:m[i]?with|none=>rw[e]at h2;cases h2|some a=>rw[e]at h2;cases h2;rfl
  obtain⟨u,I,M⟩:=r.get L;have t:l[i]?=some y:=by rw[<-S.pre,NF (by lia)];show h1
  have B:l.Nodup:=by rw[<-S.pre];show S.nd.sublist (NB _ _)
  show{u,M,?_};rcases S.par y (g_ t)with k|k
  ·show .inl {k,wk B t I k}
  ·obtain⟨c,e⟩:=y4 (n:=s.heap.objs.size+1) k;show .inr {.inl k,c,e,?_};have q:=x.cell y c e;rw[wo B t I (by change scope.names.lookup y≠_;rw[k];decide)]at q;show q
 ·show j.hok.fresh (z4 (x.above y c (PySem.mem_of_lookup h)))
 ·unfold iV;change _=N.length;rw[j1,b_,MN];lia
def HW{F:zi}{P:OK}{w:World}{K:OF}{mg:OI}{base:Heap}{k:Nat}{f:Addr}{j a:Str}{g:Arguments}{h:List Stmt}{scope:Scope}{X kV B pm c ct oc:Value}{Z od:Option Addr}{L:Array (Option Value)}{N G:OL}{sp:Sp}(lk:K.lookup f=some {oc,od,.func (PySem.W.fnOf j a g h scope X kV B pm Z c ct),L})(M:PySem.W.codeIn K c a=true)(S:aB N G scope)(len:∀i H Q E,sp i H Q E->i.length=G.length)(m:∀(A:Around)(outer:List Env)(s:Shared)(H:Hp)(i:List V)(Q:VK)(E:XK),eZ k (A.deeper (envOfC a scope s.heap.objs.size f c))->sp i H Q E->∃t,vi (qF F P w K mg base N a scope f c A outer s H E) h t/\t {nx:=λ_ l=>Q .non l,rt:=Q} (iV N i) H):aT P w K mg base F (k+1) f (PySem.W.fnOf j a g h scope X kV B pm Z c ct) G sp:=by
 show{len,λA outer s H Y us i Q E O C hb r D=>?_};have hl:=len _ _ _ _ D;have KX:K.In s.heap:=C.mod.kin.keeps λb o e=>(C.bs b o e).1;have R:s.heap.NoLimit:=C.mod.nolimit.keeps λb o e=>(C.bs b o e).1;have p:∀y∈G.zip us,scope.names.lookup y.1=some .local\/(scope.names.lookup y.1=some .cell/\((cellsFrom (s.heap.objs.size+1) scope.names []).lookup y.1).isSome=true):=λ⟨n,v⟩hy=>by
  rcases S.par n (MM hy).1 with q|q
  ·show .inl q
  ·show .inr {q,PySem.W.cellsFrom_some _ _ _ (.inl q)}
 show codeAny_call_function O.depth (KX _ _ lk) () S.co S.gen () (PySem.W.codeRec_of KX M) (hb _ _ _ _ ?_);show wpAny_newFunctionEnv_cells S.kind p λenv he s1 x=>?_;subst he;show{R.keeps x.toInCall.keep,codeAny_func ?_};obtain⟨t,ht,hq⟩:=m A outer s H i Q E (O.deeper _) D;have I:aN (qF F P w K mg base N a scope f c A outer s H E) [] (iV N i) H s1:=Ce S O.hd C hl r x;show wpAny_mono (ht [] s1 (iV N i) H _ I hq) (λfl T z=>?_) λe T z=>z;have fin:∀{d:St}{l:Hp}{v:V}{u:Value},aN (qF F P w K mg base N a scope f c A outer s H E) [] d l T->a0 v u->Q v l->CE outer P w H s Q u T:=λ{d l v u}J U q=>(v,l,J.os,J.bare,J.base,J.hok,U,q,)
 cases fl with|ret u=>obtain⟨v,d,l,J,U,q⟩:=z;show fin J U q|next=>obtain⟨d,l,J,q⟩:=z;show fin (v:=V.non) (u:=Value.none) J () q|brk=>obtain⟨_,_,_,q⟩:=z;show False.elim q|cont=>obtain⟨_,_,_,q⟩:=z;show False.elim q
section
variable{X:Cx}{x:Str}{p a:Pos}{e:Expr}{c:OM}{t:TA}{id T:String}{r:List V->Hp->VK->Prop}
def tCB(r:List V->Hp->VK->Prop)(t:TA):TE:=λb H Q=>t b H λd f=>r d f Q
def aA(hc:dG X (.builtin id) r)(hg:Gl X x)(hm:X.mg x=none)(i:bootBuiltins x=some (.builtin id))(j:PA X (e::c) t)(hn:x≠"__name__":=by decide)(f:(x==("__debug__":Str))=false:=by decide)(l:starEach (e::c) X.env=(false,eval e X.env)::starEach c X.env:=by rfl)(g:(backTo a (starEach c X.env)).any (·.1)=false:=by rfl):PE X (.Call (.Name x p) (e::c) [] a) (tCB r t):=by intro b s d H Q I h;show y3 (kW I hg hm i ?_ hn f);show PyProof.Rows.callWith_builtin1 (cw (j a b s d H _ I h) λk m⟨n,o,I1,q,u⟩=>hc b m d o n k Q I1 q u) l g
def dB(hc:dG X (.type T) r)(hg:Gl X x)(hm:X.mg x=none)(i:bootBuiltins x=some (.type T))(j:PA X (e::c) t)(hn:x≠"__name__":=by decide)(f:(x==("__debug__":Str))=false:=by decide)(l:starEach (e::c) X.env=(false,eval e X.env)::starEach c X.env:=by rfl)(g:(backTo a (starEach c X.env)).any (·.1)=false:=by rfl):PE X (.Call (.Name x p) (e::c) [] a) (tCB r t):=by intro b s d H Q I h;show y3 (kW I hg hm i ?_ hn f);show F_ (cw (j a b s d H _ I h) λk m⟨n,o,I1,q,u⟩=>hc b m d o n k Q I1 q u) l g
end
end L2
namespace HT
open PySem PyProof.Rows
section
variable{prog:OK}{w:World}{A:Around}{E:OG}{s:Shared}
def Hl(p:IsTup s.heap t f.toArray)(q:IsTup s.heap b a.toArray)(m:f≠[])(h1:a=[]->Q (.ref t) s)(h2:a≠[]->Q (.ref s.heap.objs.size) {s with heap:=s.heap.push {cls:=.type "tuple",data:=.seq (f++a).toArray}})(l:f.length+a.length<=sizeLine):wpAny (model prog w) A (binaryOp .Add (.ref t) (.ref b)) Q E s:=by
 obtain⟨⟨cls,dd,data,sl⟩,j,hc,n,hd⟩:=id p;obtain⟨⟨o,d,data2,g⟩,c,h,n2,i⟩:=id q;simp only at hc hd h i;subst hc hd h i;have e:f.toArray++a.toArray=(f++a).toArray:=by simp
 by_cases k:a=[]
 ·show concat_meets {_,j,()} {_,c,()} noFill_tuple_add seq_tuple_add PySem.F.slot_tuple_add PySem.F.entry_tuple_add (PySem.F.args_tuple_add_2 _ _) (tuple_addW1 t b f.toArray a.toArray n n2 dd d sl g (by simpa using m) (by simp[k])) {j,c,h1 k}
 ·show concat_meets {_,j,()} {_,c,()} noFill_tuple_add seq_tuple_add PySem.F.slot_tuple_add PySem.F.entry_tuple_add (PySem.F.args_tuple_add_2 _ _) (tuple_addW2 t b f.toArray a.toArray n n2 dd d sl g (by simpa using m) (by simpa using k) (by rw[md,md];show l)) {j,c,?_}
  rw[e];show h2 k
def ic(n d:Nat):Option Int->Nat|none=>d|some v=>if v<0 then(v+(n:Int)).toNat else min v.toNat n
def DB(n d:Nat):ic n d none=d:=rfl
def IY(n d:Nat)(hd:d<=n)(o:Option Int):ic n d o<=n:=by cases o with|none=>show hd|some v=>
  change(if v<0 then(v+(n:Int)).toNat else min v.toNat n)<=n
  by_cases a:v<0
  ·rw[i_ a];lia
  ·rw[iA a];show Nb _ _
def Be(v:Int)(n d:Nat):(if v<0 then max (v+(n:Int)) 0 else min v (n:Int))=((ic n d (some v):Nat):Int):=by
 change(if v<0 then max (v+(n:Int)) 0 else min v (n:Int))=(((if v<0 then(v+(n:Int)).toNat else min v.toNat n):Nat):Int)
 by_cases a:v<0
 ·simp only[i_ a];lia
 ·simp only[iA a];lia
def Ao(lo hi:Option Int)(n:Nat):Builtin.Slice.sliceAdjust lo hi 1 (n:Int)=(((ic n 0 lo:Nat):Int),((ic n n hi:Nat):Int)):=by
 have h1:¬((1:Int)<0):=by lia
 unfold Builtin.Slice.sliceAdjust;simp only[h1,NL];show Prod.ext ?_ ?_
 ·cases lo with|none=>rfl|some v=>show Be v n 0
 ·cases hi with|none=>rfl|some v=>show Be v n n
def zD(i j:Nat):Builtin.Slice.slicePlaces (i:Int) (j:Int) 1=j-i:=by
 unfold Builtin.Slice.slicePlaces;have h1:(1:Int)>0:=by lia
 simp only[h1,Oj,Int.ediv_one]
 split<;>lia
def sV(p:IsPart v o)(h:Q o s):wpAny (model prog w) A (Builtin.Slice.slicePartIndex v) Q E s:=by cases p with|none=>show slicePart_none h|int i t=>show slicePart_int h
def qk{sl:Addr}{c e:Value}{lo hi:Option Int}{n:Nat}{Q:Int×Int×Nat->Shared->Prop}(f:s.heap.IsSliceOf sl c e .none)(pl:IsPart c lo)(g:IsPart e hi)(h:Q (((ic n 0 lo:Nat):Int),1,ic n n hi-ic n 0 lo) s):wpAny (model prog w) A (Builtin.Slice.sliceApplied (.ref sl) (pure (n:Int))) Q E s:=by obtain⟨os,a,d,b⟩:=id f;unfold Builtin.Slice.sliceApplied Builtin.Slice.sliceFields;show a_ (a_ (v_ a b (x:=c) () (a_ (v_ a b (x:=e) () (a_ (v_ a b (x:=.none) () (f_ ?_)))))));show a_ (slicePart_none ?_);change wpAny _ _ (if((1:Int)==0)=true then _ else _) _ _ s;rw[iA (by decide)];show a_ (sV pl (a_ (sV g (a_ (f_ ?_)))));change wpAny _ _ (match Builtin.Slice.sliceAdjust lo hi 1 (n:Int)with|(lo,hi)=>pure (lo,(1:Int),Builtin.Slice.slicePlaces lo hi 1)) _ _ s;rw[Ao lo hi n];change wpAny _ _ (pure (((ic n 0 lo:Nat):Int),(1:Int),Builtin.Slice.slicePlaces ((ic n 0 lo:Nat):Int) ((ic n n hi:Nat):Int) 1)) _ _ s;rw[zD];show f_ h
def DK(a:ON)(i k:Nat):((List.range k).filterMap λ(m:Nat)=>a[((i:Int)+(m:Int)*1).toNat]?).toArray=((a.toList.drop i).take k).toArray:=by
 have e:(λ(m:Nat)=>a[((i:Int)+(m:Int)*1).toNat]?)=λm=>a[i+m]?:=by
  funext m
  have:((i:Int)+(m:Int)*1).toNat=i+m:=by lia
  rw[this]
 rw[e];have:=pick_run a i k;rw[Nu]at this;have b:((λx=>a[x]?)∘λx=>i+x)=λm=>a[i+m]?:=();rw[b]at this;rw[this]
def pX{t sl:Addr}{a:ON}{i j:Value}{lo hi:Option Int}{Q:OG}(c:IsTup s.heap t a)(l:s.heap.IsSliceOf sl i j .none)(pl:IsPart i lo)(n:IsPart j hi)(o:¬(ic a.size 0 lo=0/\ic a.size a.size hi=a.size))(h:Q (.ref s.heap.objs.size) {s with heap:=s.heap.push {cls:=.type "tuple",data:=.seq ((a.toList.drop (ic a.size 0 lo)).take (ic a.size a.size hi-ic a.size 0 lo)).toArray}})(p:a.size<=sizeLine):wpAny (model prog w) A (getItem (.ref t) (.ref sl)) Q E s:=by
 have b:sizeOk (.seq ((a.toList.drop (ic a.size 0 lo)).take (ic a.size a.size hi-ic a.size 0 lo)).toArray):=by change((a.toList.drop (ic a.size 0 lo)).take (ic a.size a.size hi-ic a.size 0 lo)).toArray.size<=sizeLine;rw[md,oa,Nd,nB];lia
 have u:ic a.size a.size hi<=a.size:=IY _ _ (e_ _) hi;obtain⟨os,d,e,r⟩:=id l;have f:s.TypeIs (.ref sl) "slice":=(os,d,e,);unfold getItem
 try with_reducible show qq ?_
 first|show a_ (f_ ?_)|skip
 show a_ (wpAny_sequenceKey c.typeIs (by decide) ?_);show a_ (ro (name:=Str.ofString "__getitem__") c.typeIs Os (q_ Os c.typeIs entry_tuple_getitem ?_ (args_tuple_getitem _ _)))
 change wpAny _ _ (Builtin.Tuple.tupleItemsOf (.ref t)>>=_) _ _ s;show a_ (tupleItemsOf_ c ?_);show a_ (Oh f ?_);rw[i_ (by decide)];show a_ (qk l pl n ?_);have g:¬((((ic a.size 0 lo:Nat):Int)==0&&(1:Int)==1&&(ic a.size a.size hi-ic a.size 0 lo)==a.size)=true):=by intro q;rw[nk,nk]at q;have v:((ic a.size 0 lo:Nat):Int)=0:=eq_of_beq q.1.1;have x:ic a.size a.size hi-ic a.size 0 lo=a.size:=eq_of_beq q.2;show o {by lia,by lia}
 change wpAny _ _ (if(((ic a.size 0 lo:Nat):Int)==0&&(1:Int)==1&&(ic a.size a.size hi-ic a.size 0 lo)==a.size)=true then _ else _) _ _ s;rw[iA g,DK]
 first|show a_ (m:=Builtin.Tuple.tupleExact _) (rb (f_ {_,(),f_ h}) b)|show a_ (m:=Builtin.Tuple.tupleExact _) (rb (a_ (f_ (f_ {_,(),f_ h}))) b)|show a_ (a_ (m:=Builtin.Tuple.tupleExact _) (rb (f_ (f_ {_,(),f_ h})) b))|show a_ (a_ (m:=Builtin.Tuple.tupleExact _) (rb (f_ {_,(),f_ h}) b))
end
end HT
namespace L2
open PySem PySem.Spec PyProof.Rows
abbrev TO:=St->Hp->(Option Int->Hp->Prop)->Prop
def PO(X:Cx)(e:Option Expr)(t:TO):Prop:=∀(a:OH)(s:Shared)(b:St)(H:Hp)(Q:Option Int->Hp->Prop),aN X a b H s->t b H Q->wpAny (model X.prog X.w) X.A (evalPart e X.env) (λu d=>∃o c,aN X a b c d/\IsPart u o/\Q o c) X.xe s
def FJ:TO:=λ_ H Q=>Q none H
def KC(t:TE):TO:=λa H Q=>t a H λx b=>∃i,x=.int i/\Q (some i) b
def zY:∀{a:OJ},be (ns.map V.int) a->IntsAre a ns:=by induction ns with|nil=>intro a r;rw[NT]at r;cases r;show .nil|cons n ns b=>intro a r;rw[n_]at r;cases r with|cons c r2=>obtain⟨t,e⟩:=c;subst e;show .cons n t (b r2)
section
variable{X:Cx}{e:Expr}{te:TE}{lo hi:Option Expr}{g f:TO}{j c:Pos}
def gB:PO X none FJ:=by intro a s b H Q I h;rw[evalPart_none];show f_ {none,H,I,.none,h}
def gA(h:PE X e te):PO X (some e) (KC te):=by intro a s b H Q I d;rw[evalPart_some];show cw (h a s b H _ I d) λu o k=>?_;obtain⟨x,l,I1,m,n⟩:=k;obtain⟨i,rfl,q⟩:=n;obtain⟨t,rfl⟩:=m;show{some i,l,I1,.int i t,q}
def Ks(X:Cx)(r:V->Option Int->Option Int->Hp->VK->Prop):Prop:=∀(a:OH)(s:Shared)(b:St)(H:Hp)(x:V)(v d h:Value)(lo hi:Option Int)(sl:Addr)(Q:VK),aN X a b H s->a0 x v->s.heap.IsSliceOf sl d h .none->IsPart d lo->IsPart h hi->r x lo hi H Q->∃T id,typeLookup (.type T) "__getitem__"=pure (some (.builtin id))/\s.TypeIs v T/\wpAny (model X.prog X.w) X.A (getItem v (.ref sl)) (EP X a b Q) X.xe s
def tSl(r:V->Option Int->Option Int->Hp->VK->Prop)(te:TE)(g f:TO):TE:=λa H Q=>te a H λx b=>g a b λl d=>f a d λu h=>r x l u h Q
def fc(p:Ks X r)(y:PE X e te)(z:PO X lo g)(B:PO X hi f):PE X (.Subscript e (.Slice lo hi none c) j) (tSl r te g f):=by intro a s i H Q I h;show Subscript_ (cw (y a s i H _ I h) λv t k=>?_);obtain⟨x,C,I1,D,E⟩:=k;show wpAny_Slice (cw (z a t i C _ I1 E) λm F k=>?_);obtain⟨l,G,J,pl,K⟩:=k;show cw (B a F i G _ J K) λn d k=>?_;obtain⟨u,o,L,M,N⟩:=k;rw[evalPart_none];show f_ ?_;have O:aN X a i o {d with heap:=d.heap.push {cls:=.type "slice",data:=.fields #[m,n,.none]}}:=L.kept (t':=d.toks) λb ob q=>c_ _ q;obtain⟨T,id,P,R,hg⟩:=p a {d with heap:=d.heap.push {cls:=.type "slice",data:=.fields #[m,n,.none]}} i o x v m n l u d.heap.objs.size Q O D (Heap.IsSliceOf.new ..) pl M N;change wpAny (model X.prog X.w) X.A (subscriptTail e (.Slice lo hi none c) v (.ref d.heap.objs.size)) (EP X a i Q) X.xe {d with heap:=d.heap.push {cls:=.type "slice",data:=.fields #[m,n,.none]}};show tail_any (ops:=[.ref d.heap.objs.size,v]) R P hg (by with_unfolding_all rfl)
def vb(a:List V)(lo hi:Option Int):List V:=(a.drop (HT.ic a.length 0 lo)).take (HT.ic a.length a.length hi-HT.ic a.length 0 lo)
def rC(a:List V)(lo hi:Option Int):(vb a lo hi).length<=a.length:=by unfold vb;rw[oa,Nd];lia
def K0(K:OF):V->Option Int->Option Int->Hp->VK->Prop:=λx lo hi H Q=>∃a b,x=.ref a/\aS K H a b/\¬(HT.ic b.length 0 lo=0/\HT.ic b.length b.length hi=b.length)/\∀p,H p=none->Q (.ref p) (aH H p (.tup (vb b lo hi)))
def IU:Ks X (K0 X.K):=by
 intro l s z H x v A B lo hi sl Q I p t pl u h;obtain⟨a,i,rfl,w,y,q⟩:=h;cases p;obtain⟨k,r,m,n⟩:=I.tuple w;have d:k.toArray.size=i.length:=by rw[md];show r.length.symm
 show{"tuple",_,PyProof.Rows.slot_tuple_getitem.lookup,m.typeIs,?_};show HT.pX m t pl u (by rw[d];show y) ?_ (by rw[d];show n);rw[d];show{.ref s.heap.objs.size,_,I.laid (t':=s.toks) (o:=.tup (vb i lo hi)) (λb ob q=>c_ _ q) (e_ _) ?_,(),q _ (I.hok.fresh (e_ _))};show{lm (rC i lo hi) n,_,(r.drop (HT.ic i.length 0 lo)).take (HT.ic i.length i.length hi-HT.ic i.length 0 lo),IsTup.new _ _}
def HM(K:OF):R2:=λx y H Q=>∃a b h d,x=.ref a/\y=.ref b/\aS K H a h/\aS K H b d/\h≠[]/\h.length+d.length<=sizeLine/\(d=[]->Q (.ref a) H)/\(d≠[]->∀p,H p=none->Q (.ref p) (aH H p (.tup (h++d))))
def be.nil_iff(r:be a h):h=[]↔a=[]:=by cases r with|nil=>simp|cons _ _=>simp
def GI:kL X (binaryOp .Add) (HM X.K):=by intro i s G H x y v u Q I m n h;obtain⟨a,b,p,r,rfl,rfl,t,A,B,k,C,D⟩:=h;cases m;cases n;obtain⟨E,d,F,_⟩:=I.tuple t;obtain⟨l,r2,c,_⟩:=I.tuple A;show HT.Hl F c (λz=>B (d.nil_iff.mp z)) (λz=>{.ref a,H,I,(),C (r2.nil_iff.mp z)}) (λz=>?_) (by rw[<-d.length,<-r2.length];show k);show{.ref s.heap.objs.size,_,I.laid (t':=s.toks) (o:=.tup (p++r)) (λb ob q=>c_ _ q) (e_ _) ?_,(),D (λw=>z (r2.nil_iff.mpr w)) _ (I.hok.fresh (e_ _))};show{by rw[j1];show k,_,d.append r2,IsTup.new _ _}
end
def G6(n:Nat)(i:Int):Option Nat:=if 0<=i then(if i<n then some i.toNat else none)else if-(n:Int)<=i then some (i+n).toNat else none
def vg{a:Type}(c:List a)(i:Int):Option a:=(G6 c.length i).bind λj=>c[j]?
def A6(h:G6 n i=some j):seqIndex? i n=some j/\j<n/\-(n:Int)<=i/\i<n:=by
 unfold G6 at h
 by_cases h0:0<=i
 ·rw[i_ h0]at h
  by_cases h1:i<n
  ·rw[i_ h1]at h;have e:i.toNat=j:=mu h;show{by rw[seqIndex_of h0 h1,e],by lia,by lia,h1}
  ·rw[iA h1]at h;cases h
 ·rw[iA h0]at h
  by_cases h1:-(n:Int)<=i
  ·rw[i_ h1]at h;have e:(i+n).toNat=j:=mu h;show{by rw[seqIndex_neg (by lia) h1,e],by lia,h1,by lia}
  ·rw[iA h1]at h;cases h
def xt(h:vg a i=some v):∃j,seqIndex? i a.length=some j/\a[j]?=some v/\j<a.length/\-(a.length:Int)<=i/\i<a.length:=by unfold vg at h;cases e:G6 a.length i with|none=>rw[e]at h;cases h|some j=>rw[e]at h;obtain⟨h1,h2,h3,h4⟩:=A6 e;show(j,h1,h,h2,h3,h4,)
def xB(b:Expr):Prop:=∀o i,subscripted b false o i=operate [o,i] (getItem o i)
def Ku(X:Cx)(r:R2):Prop:=∀(c a:Expr)(b:OH)(s:Shared)(d:St)(H:Hp)(x y:V)(v u:Value)(Q:VK),aN X b d H s->a0 x v->a0 y u->r x y H Q->subscripted a false v u=operate [v,u] (getItem v u)->wpAny (model X.prog X.w) X.A (subscriptTail c a v u) (EP X b d Q) X.xe s
def MA(X:Cx)(id:String)(r:V->List V->Hp->VK->Prop):Prop:=∀(a:OH)(s:Shared)(b:St)(H:Hp)(x:V)(c:List V)(v:Value)(d:OJ)(Q:VK),aN X a b H s->a0 x v->be c d->r x c H Q->wpAny (model X.prog X.w) X.A (call (.builtin id) (v::d)) (EP X a b Q) X.xe s
section
variable{X:Cx}{a b:Expr}{G F:TE}{E:Pos}
def yj(e:Ku X r)(f:PE X a G)(g:PE X b F)(i:xB b):PE X (.Subscript a b E) (Iq r G F):=by intro c s d H Q I h;show Subscript_ (J8 f g I h λv u j x y k l m n q=>e a b c j d k x y v u Q l m n q (i _ _))
def Jb(K:OF):R2:=λx y H Q=>∃p c i v,x=.ref p/\y=.int i/\aW K H p c/\vg c i=some v/\Q v H
def Ja(K:OF):R2:=λx y H Q=>∃p c i v,x=.ref p/\y=.int i/\aS K H p c/\vg c i=some v/\Q v H
def Mh:R2:=λx y H Q=>∃z i c,x=.str z/\y=.int i/\z.length<=sizeLine/\vg z.cps.toList i=some c/\Q (.str {#[c]}) H
def G4:Ku X (Jb X.K):=by
 intro d e c s l H x y v u Q I o A h m;obtain⟨p,M,i,z,rfl,rfl,B,C,q⟩:=h;cases o;obtain⟨t,rfl⟩:=A;obtain⟨f,r,pl,N⟩:=I.list B;obtain⟨j,h1,h2,h3,h4,D⟩:=xt C;obtain⟨w,n,g⟩:=r.get h2;have J:=r.length;have hn:=qz;have fin:EP X c l Q w s:=(z,H,I,g,q,)
 by_cases h0:0<=i
 ·have k:i.toNat=j:=by rw[seqIndex_of h0 D]at h1;show mu h1
  show item_listR pl.isList h0 (by lia) (by rw[k];simpa using n) fin m
 ·have k:(i+(f.toArray.size:Int)).toNat=j:=by rw[seqIndex_neg (by lia) h4]at h1;rw[md,<-J];show mu h1
  show subscriptTail_builtinR (x:=w) pl.isList.typeIs slot_list_getitem.lookup (wpAny_getItem_list_neg (Q:=λr L=>r=w/\EP X c l Q r L) pl.isList (by lia) (by rw[md]<;>lia) (by lia) (by rw[k];simpa using n) {(),fin}) m
def JJ:Ku X (Ja X.K):=by intro d e c s g H x y v u Q I k l h m;obtain⟨p,J,i,z,rfl,rfl,n,o,q⟩:=h;cases k;obtain⟨t,rfl⟩:=l;obtain⟨A,r,pl,L⟩:=I.tuple n;obtain⟨j,h1,h2,h3,h4,M⟩:=xt o;obtain⟨w,B,f⟩:=r.get h2;have C:=r.length;have hn:=qz;have fin:EP X c g Q w s:=(z,H,I,f,q,);show subscriptTail_builtinR (x:=w) pl.typeIs slot_tuple_getitem.lookup (getItem_tuple (j:=j) (Q:=λr D=>r=w/\EP X c g Q r D) pl (by lia) (by lia) (by rw[md,<-C];show h1) (by simpa using B) {(),fin}) m
def zV:Ku X Mh:=by
 intro d e f s w H x y v u Q I g k h l;obtain⟨z,i,c,rfl,rfl,A,m,q⟩:=h;obtain⟨t,rfl⟩:=g;obtain⟨B,rfl⟩:=k;obtain⟨j,h1,h2,h3,h4,n⟩:=xt m;have o:z.cps.toList.length=z.length:=by simp[Str.length]
 rw[o]at h1 h4 n;have hn:=qz;show tail_any (typeIs_str s z t) slot_str_getitem.lookup (getItem_str (c:=c) (by have p:decide (i< -(2^63:Int))=false:=me (by lia);have r:decide (i>=2^63)=false:=me (by lia);rw[p,r,Bool.or_false]) (by rw[h1];simpa using h2) {.str {#[c]},H,I.tok _,{_,()},q}) l
def zR(c:OJ)(n j:Nat)(u:Value):Obj.mapSeq (·.setIfInBounds j u) {cls:=.type "list",data:=.seq c.toArray n}={cls:=.type "list",data:=.seq (c.set j u).toArray n}:=by simp[Obj.mapSeq]
theorem aN.lst(I:aN X f g H s)(h:H p=some (.lst xs)):∃(c:OJ)(n:Nat),be xs c/\s.heap.get? p=some {cls:=.type "list",data:=.seq c.toArray n}/\xs.length<=sizeLine:=by obtain⟨z,c,n,r,e⟩:=I.hok p _ h;show(c,n,r,e,z,)
def aN.lstUpd{g:OH}{m:St}{H:Hp}{s:Shared}{p:Addr}{v j:List V}{i c:OJ}{n l:Nat}{f:Obj->Obj}(I:aN X g m H s)(h:H p=some (.lst v))(w:s.heap.get? p=some {cls:=.type "list",data:=.seq i.toArray n})(o:f {cls:=.type "list",data:=.seq i.toArray n}={cls:=.type "list",data:=.seq c.toArray l})(r:be j c)(y:j.length<=sizeLine)(t:Nat):aN X g m (aH H p (.lst j)) {s with heap:=s.heap.update p f,toks:=t}:=by
 have e:(s.heap.update p f).get? p=some {cls:=.type "list",data:=.seq c.toArray l}:=by rw[vr f w (by rw[o]<;>rfl),o]
 show I.write (x:=p) (e:=p) (by rw[h];trivial) (.inl ()) (λb u d q=>(x3 _ _ (o8 d)).trans q) {_,e} ?_;show(y,c,l,r,e,)
def K9:V->V->V->Hp->(Hp->Prop)->Prop:=λo i v H Q=>∃p c k j,o=.ref p/\i=.int k/\H p=some (.lst c)/\G6 c.length k=some j/\Q (aH H p (.lst (c.set j v)))
def Dz:HA X K9:=by
 intro c s w H o i v D iv u Q I x y z h;obtain⟨p,A,k,j,rfl,rfl,l,B,q⟩:=h;cases x;obtain⟨t,rfl⟩:=y;obtain⟨d,n,r,e,C⟩:=I.lst l;obtain⟨h1,h2,h3,h4⟩:=A6 B;have f:=r.length;have hn:=qz;have m:aN X c w (aH H p (.lst (A.set j v))) {s with heap:=s.heap.update p (Obj.mapSeq (·.setIfInBounds j u))}:=I.lstUpd l e (zR d n j u) (r.set z j) (by rw[D_];show C) s.toks
 by_cases h0:0<=k
 ·have g:k.toNat=j:=by rw[seqIndex_of h0 h4]at h1;show mu h1
  show PySem.W.ki_setAt e h0 (by lia) (by rw[md,<-f];show h4) (by rw[g];show{_,m,q})
 ·have g:(k+(d.toArray.size:Int)).toNat=j:=by rw[seqIndex_neg (by lia) h3]at h1;rw[md,<-f];show mu h1
  show PySem.W.ki_setBack e (by lia) (by rw[md,<-f];show h3) (by lia) (by rw[g];show{_,m,q})
def wC(lo hi:Option Int)(n:Nat):(sliceBounds lo hi none n).1=((HT.ic n 0 lo:Nat):Int)/\(sliceBounds lo hi none n).2.1=((HT.ic n n hi:Nat):Int)/\(sliceBounds lo hi none n).2.2=1:=by
 show{?_,?_,()}
 ·cases lo with|none=>simp[sliceBounds,HT.ic]|some i=>
   simp only[sliceBounds,HT.ic,Option.getD_none,show(1:Int)>0 by decide,Oj]
   by_cases h:i<0
   ·simp only[h,Oj]<;>lia
   ·simp only[h,NL]<;>lia
 ·cases hi with|none=>simp[sliceBounds,HT.ic]|some i=>
   simp only[sliceBounds,HT.ic,Option.getD_none,show(1:Int)>0 by decide,Oj]
   by_cases h:i<0
   ·simp only[h,Oj]<;>lia
   ·simp only[h,NL]<;>lia
def uS(c:OJ)(lo hi:Option Int):slicePick c.toArray lo hi none=((c.drop (HT.ic c.length 0 lo)).take (HT.ic c.length c.length hi-HT.ic c.length 0 lo)).toArray:=by obtain⟨h1,h2,h3⟩:=wC lo hi c.toArray.size;unfold slicePick;rw[h1,h2,h3];simp only[sliceRange_one,pick_run,md]<;>rfl
def K7(K:OF):V->Option Int->Option Int->Hp->VK->Prop:=λx lo hi H Q=>∃a c,x=.ref a/\aW K H a c/\∀p,H p=none->Q (.ref p) (aH H p (.lst (vb c lo hi)))
def Gi:Ks X (K7 X.K):=by intro e s n H x v p t lo hi sl Q I g i pl j h;obtain⟨a,c,rfl,k,q⟩:=h;cases g;obtain⟨l,r,f,m⟩:=I.list k;have d:=r.length;show{"list",_,slot_list_getitem.lookup,f.isList.typeIs,?_};show wpAny_getItem_list_slice f.isList i pl j .none (by simp) ?_ (by rw[md]<;>lia);rw[uS,<-d];show{.ref s.heap.objs.size,_,I.laid (t':=s.toks) (o:=.lst (vb c lo hi)) (λb ob q=>c_ _ q) (e_ _) ?_,(),q _ (I.hok.fresh (e_ _))};show{lm (rC c lo hi) m,_,0,(r.drop (HT.ic c.length 0 lo)).take (HT.ic c.length c.length hi-HT.ic c.length 0 lo),h_ _ ()}
def nZ:V->Bool|.non=>true|.bl _=>true|.int _=>true|.str _=>true|_=>false
noncomputable def HY:V->V->Bool|.non,.non=>true|.bl a,.bl b=>a==b|.bl a,.int b=>(if a then 1 else 0)==b|.int a,.bl b=>a==(if b then 1 else 0)|.int a,.int b=>a==b|.str a,.str b=>a==b|_,_=>false
def J2(e:a0 y u)(c:a0 x v)(g:nZ y=true)(f:nZ x=true):SeqAt.EqAt A s u v (HY y x):=by cases y with
 |non=>cases e;cases x with|non=>cases c;show SeqAt.EqAt.same _|bl b=>cases c;show SeqAt.EqAt.none_bool b|int b=>obtain⟨t,rfl⟩:=c;show SeqAt.EqAt.none_int b t|str b=>obtain⟨t,rfl⟩:=c;show SeqAt.EqAt.none_str b t|_=>show absurd (show false=true from f) kw
 |bl a=>cases e;cases x with|non=>cases c;show SeqAt.EqAt.bool_none a|bl b=>cases c;show SeqAt.EqAt.bool_bool a b|int b=>obtain⟨t,rfl⟩:=c;show SeqAt.EqAt.bool_int a b t|str b=>obtain⟨t,rfl⟩:=c;show SeqAt.EqAt.bool_str a b t|_=>show absurd (show false=true from f) kw
 |int a=>obtain⟨d,rfl⟩:=e;cases x with|non=>cases c;show SeqAt.EqAt.int_none a d|bl b=>cases c;show SeqAt.EqAt.int_bool a d b|int b=>obtain⟨t,rfl⟩:=c;show SeqAt.EqAt.int_int a d b t|str b=>obtain⟨t,rfl⟩:=c;show SeqAt.EqAt.int_str a d b t|_=>show absurd (show false=true from f) kw
 |str a=>obtain⟨d,rfl⟩:=e;cases x with|non=>cases c;show SeqAt.EqAt.str_none a d|bl b=>cases c;show SeqAt.EqAt.str_bool a d b|int b=>obtain⟨t,rfl⟩:=c;show SeqAt.EqAt.str_int a d b t|str b=>obtain⟨t,rfl⟩:=c;show SeqAt.EqAt.str_str a d b t|_=>show absurd (show false=true from f) kw
 |_=>show absurd (show false=true from g) kw
def Hg(x:V)(u:Value):Bool:=match u with|.none=>HY .non x|.bool b=>HY (.bl b) x|.int i _=>HY (.int i) x|.str z _=>HY (.str z) x|_=>false
def E3(r:a0 y u)(f:nZ y=true):Hg x u=HY y x:=by cases y with|non=>cases r;rfl|bl b=>cases r;rfl|int i=>obtain⟨t,rfl⟩:=r;rfl|str z=>obtain⟨t,rfl⟩:=r;rfl|_=>show absurd (show false=true from f) kw
theorem xu:∀{c:List V}{e:OJ},be c e->c.all nZ=true->e.any (Hg x)=c.any λy=>HY y x|_,_,.nil,_=>()|y::c,u::e,.cons r t,f=>by rw[Ni,nk]at f;rw[z7,z7,E3 r f.1,xu t f.2]
theorem uj(h:a0 x v)(i:nZ x=true):∀{e:List V}{g:OJ},be e g->e.all nZ=true->∀u∈g,SeqAt.EqAt A s u v (Hg x u)
 |_,_,.nil,_=>λu c=>by cases c|y::e,u::g,.cons r t,f=>λd c=>by
  rw[Ni,nk]at f;rcases so.mp c with rfl|c
  ·rw[E3 r f.1];show J2 r h f.1 i
  ·show uj h i t f.2 d c
def lz(x:V)(c:List V):Bool:=c.any λy=>HY y x
def rIn(K:OF)(e:Bool):R2:=λx y H Q=>∃p c,y=.ref p/\(aW K H p c\/aS K H p c)/\nZ x=true/\c.all nZ=true/\Q (.bl (if e then !lz x c else lz x c)) H
def BT:kL X (compareOp .In) (rIn X.K false):=by
 intro f s l H x y v u Q I g j h;obtain⟨p,m,rfl,d,i,fs,q⟩:=h;cases j;rcases d with d|d
 ·obtain⟨c,r,pl,k⟩:=I.list d;show SeqAt.in_listAt (Hg x) pl.isList (λw e=>uj g i r fs w (by simpa using e)) {.bl _,H,I,(),?_};rw[show c.toArray.any (Hg x)=c.any (Hg x)by simp,xu r fs];show q
 ·obtain⟨c,r,pl,k⟩:=I.tuple d;show SeqAt.in_tupleAt (Hg x) pl (λw e=>uj g i r fs w (by simpa using e)) {.bl _,H,I,(),?_};rw[show c.toArray.any (Hg x)=c.any (Hg x)by simp,xu r fs];show q
def xl:dG X (.type "list") (λv H Q=>∃p f,v=[.ref p]/\(aW X.K H p f\/aS X.K H p f)/\∀l,H l=none->Q (.ref l) (aH H l (.lst f))):=by
 intro i s y H v A Q I r h;obtain⟨p,f,rfl,j,q⟩:=h;obtain⟨u,rfl,z⟩:=k9 r;cases z;have fin:∀(c:OJ),be f c->f.length<=sizeLine->∀(h':Heap)(d:Nat),(∀b x,s.heap.get? b=some x->h'.get? b=some x)->h'.get? s.heap.objs.size=some {cls:=.type "list",dict:=none,data:=.seq c.toArray d,slots:=#[]}->EP X i y Q (.ref s.heap.objs.size) {s with heap:=h'}:=λc g k h' d kp e=>{.ref s.heap.objs.size,_,I.laid (t':=s.toks) kp (e_ _) (show c8 X.prog X.w _ h' _ (.lst f)from(k,c,d,g,e,)),(),q _ (I.hok.fresh (e_ _))}
 rcases j with j|j
 ·obtain⟨c,g,pl,k⟩:=I.list j;have m:=g.length;obtain⟨o,t,hc,n,hd⟩:=pl.isList;show call_list_seq p (.inl ()) t hc hd (λh' d kp e=>fin c g k h' d kp e) (by simp only[md]<;>lia)
 ·obtain⟨c,g,pl,k⟩:=I.tuple j;have m:=g.length;obtain⟨o,t,hc,n,hd⟩:=pl;show call_list_seq p (.inr ()) t hc hd (λh' d kp e=>fin c g k h' d kp e) (by simp only[md]<;>lia)
def vd:dG X (.type "tuple") (λj H Q=>∃p f,j=[.ref p]/\((aW X.K H p f/\∀l,H l=none->Q (.ref l) (aH H l (.tup f)))\/(aS X.K H p f/\Q (.ref p) H))):=by
 intro c s k H j y Q I r h;obtain⟨p,f,rfl,h⟩:=h;obtain⟨u,rfl,t⟩:=k9 r;cases t;rcases h with⟨g,q⟩|⟨g,q⟩
 ·obtain⟨d,i,pl,m⟩:=I.list g;have n:=i.length;show call_tuple_list pl.isList (λh' kp=>?_) (by simp only[md]<;>lia);have I1:aN X c k H {s with heap:=h'}:=I.kept (t':=s.toks) kp;have x:aN X c k (aH H h'.objs.size (.tup f)) {s with heap:=h'.push {cls:=.type "tuple",data:=.seq d.toArray}}:=I1.laid (t':=s.toks) (λb o e=>c_ _ e) (e_ _) (show c8 X.prog X.w _ _ _ (.tup f)from{m,d,i,IsTup.new _ _})
  show{.ref h'.objs.size,_,x,(),q _ (I1.hok.fresh (e_ _))}
 ·obtain⟨d,i,pl,m⟩:=I.tuple g;show call_tuple_same pl {.ref p,H,I,(),q}
def tyV(K:OF)(T:String)(x:V)(H:Hp):Prop:=match x with|.str _=>T="str"|.int _=>T="int"|.ref p=>(T="list"/\∃d,aW K H p d)\/(T="tuple"/\∃o,K.lookup p=some o/\o.cls=.type "tuple"/\o.dict=none)\/(T="dict"/\((∃c,H p=some (.dK c))\/∃c,H p=some (.dT c)))\/(T="set"/\∃S n,H p=some (.set S n))|_=>False
def Ij(I:aN X h l H s)(r:a0 x v)(ty:tyV X.K T x H):
 s.TypeIs v T/\∀a,v=.ref a->∃ob,s.heap.get? a=some ob/\ob.dict=none:=by cases x with|str z=>obtain⟨t,rfl⟩:=r;cases(show T="str"from ty);show{typeIs_str s z t,λ_ e=>nomatch e}|int i=>obtain⟨t,rfl⟩:=r;cases(show T="int"from ty);show{typeIs_int s i t,λ_ e=>nomatch e}|ref p=>
  cases r;rcases ty with⟨rfl,m,j⟩|⟨rfl,o,d,hc,hd⟩|⟨rfl,d⟩|⟨rfl,S,n,d⟩
  ·obtain⟨k,_,pl,_⟩:=I.list j;show{pl.isList.typeIs,λa e=>?_};cases e;obtain⟨o,n,e,c,hd,_⟩:=pl;show(o,e,hd,)
  ·show{{o,I.kIn p o d,hc},λa e=>?_};cases e;show{o,I.kIn _ o d,hd}
  ·have z:∃o,s.heap.get? p=some o/\o.ExactDict:=by
    rcases d with⟨f,d⟩|⟨f,d⟩
    ·obtain⟨_,_,_,_,o,_,_,e,ex,_⟩:=I.hok p _ d;show(o,e,ex,)
    ·obtain⟨_,_,_,_,o,_,_,e,ex,_⟩:=I.hok p _ d;show(o,e,ex,)
   obtain⟨o,e,ex⟩:=z;show{(o,e,ex.1,),λa g=>?_};cases g;show(o,e,ex.2.1,)
  ·obtain⟨o,_,_,_,e,ex,_⟩:=I.hok p _ d;show{(o,e,ex.1,),λa g=>?_};cases g;show(o,e,ex.2.1,)|_=>show False.elim ty
def tBM(K:OF)(T:String)(r:V->List V->Hp->VK->Prop)(D:TE)(t:TA):TE:=λc H Q=>D c H λx d=>tyV K T x d/\t c d λe f=>r x e f Q
variable{o e:Expr}{B:OM}{D:TE}{t:TA}{m:Str}{C g:Pos}{T id:String}{r:V->List V->Hp->VK->Prop}
def Ld(pa:PlainAttrs T)(slot:Slot T m id)(n:typeOf (.builtin id)=pure (.type "method_descriptor"))(hm:MA X id r)(u:PE X o D)(w:PA X (e::B) t)(i:attributeBase o m X.env (eval o X.env)=eval o X.env:=by rfl)(l:((backTo g (starEach (e::B) X.env)).all (λx=>!x.1)&&(backToKw g (keywordEach [] X.env)).all (λx=>x.1.isSome)&&decide ((e::B).length+([]:List Keyword).length+(if([]:List Keyword).isEmpty then 0 else 1)<30))=true:=by rfl)(j:(C.endLine==g.line)=true:=by rfl)(y:starEach (e::B) X.env=(false,eval e X.env)::starEach B X.env:=by rfl)(f:(backTo g (starEach B X.env)).any (·.1)=false:=by rfl):PE X (.Call (.Attribute o m C) (e::B) [] g) (tBM X.K T r D t):=by intro c s d H Q I h;show wpAny_Call_method_late i l j () (cw (u c s d H _ I h) λv z k=>?_);obtain⟨x,A,I1,p,ty,J⟩:=k;obtain⟨h1,h2⟩:=Ij I1 p ty;show{T,id,pa,slot,n,h1,h2,?_};have q:=w g c z d A _ I1 J;rw[y]at q⊢;show tA (by change(false||(backTo g (starEach B X.env)).any (·.1))=false;rw[f]<;>rfl) (z_ ?_);show cw q λL M k=>?_;obtain⟨N,O,P,r2,R⟩:=k;show hm c M d O x N v L Q P p r2 R
end
def MtM(X:Cx)(id:String)(r:V->List V->Hp->VK->Prop):Prop:=∀(a:OH)(s:Shared)(b:St)(H:Hp)(x:V)(c:List V)(v:Value)(d:OJ)(Q:VK),aN X a b H s->a0 x v->be c d->r x c H Q->wpAny (model X.prog X.w) X.A (call (.builtin id) (v::d)) (EP X a b Q) X.xe s
def be.one:∀{x:V}{a:OJ},be [x] a->∃u,a=[u]/\a0 x u|_,_,.cons r .nil=>{_,(),r}
theorem be.reverse(h:be a c):be a.reverse c.reverse:=by induction h with|nil=>show .nil|cons r t b=>rw[List.reverse_cons,List.reverse_cons];show be.append b (.cons r .nil)
theorem be.rep(h:be a c):∀k:Nat,be (List.replicate k a).flatten (List.replicate k c).flatten|0=>.nil|k+1=>by rw[sD,sD,MQ,MQ];show be.append h (be.rep h k)
theorem vX(a:OJ):∀(k:Nat)(c:OJ),List.foldl (λf g=>f++g) c.toArray (List.replicate k a.toArray)=(c++(List.replicate k a).flatten).toArray
 |0,c=>by simp|k+1,c=>by
  have e:c.toArray++a.toArray=(c++a).toArray:=by simp
  have b:(c++a)++(List.replicate k a).flatten=c++(List.replicate (k+1) a).flatten:=by rw[sD,MQ,MR]
  rw[<-b,<-vX a k (c++a),<-e,sD,Es]
section
variable{X:Cx}{a:OH}{g:St}{H:Hp}{s:Shared}{l:Addr}{i c:List V}
def aN.lset{h its':OJ}{n:Nat}{f:Array Value->Array Value}{m:Nat}(I:aN X a g H s)(o:H l=some (.lst i))(e:s.heap.get? l=some {cls:=.type "list",data:=.seq h.toArray n})(p:f h.toArray=its'.toArray)(r:be c its')(v:c.length<=sizeLine):aN X a g (aH H l (.lst c)) {s with heap:=s.heap.update l (Obj.mapSeq f),toks:=m}:=by have q:=PySem.IsL.update e f;rw[p]at q;show I.write (x:=l) (e:=l) (by rw[o];show trivial) (.inl ()) (λt u d k=>(x3 s.heap (Obj.mapSeq f) (o8 d)).trans k) {_,q} ?_;show{v,its',_,r,q}
def aN.lnew(I:aN X a g H s)(f:be c e)(h:c.length<=sizeLine):aN X a g (aH H s.heap.objs.size (.lst c)) {s with heap:=s.heap.push {cls:=.type "list",data:=.seq e.toArray},toks:=t'}:=I.laid (λ_ _ q=>c_ _ q) (e_ _) {h,e,0,f,h_ _ ()}
theorem aN.fresh(I:aN X a g H s):H s.heap.objs.size=none:=I.hok.fresh (e_ _)
def aN.lstM(I:aN X a g H s)(h:H l=some (.lst i)):i.length<=sizeLine/\∃(f:OJ)(n:Nat),be i f/\i.length=f.length/\s.heap.get? l=some {cls:=.type "list",data:=.seq f.toArray n}:=by obtain⟨z,f,n,r,e⟩:=I.hok l _ h;show(z,f,n,r,r.length,e,)
def yx{n:Nat}(h:n<=sizeLine):Builtin.List.listTooLong n=false:=by unfold Builtin.List.listTooLong;show me (by lia)
end
section
variable{X:Cx}
def Go:V->List V->Hp->VK->Prop:=λx b H Q=>∃l a y,x=.ref l/\b=[y]/\H l=some (.lst a)/\a.length<sizeLine/\Q .non (aH H l (.lst (a++[y])))
def fC:MtM X "list.append" Go:=by intro b s i H x j v k Q I f g h;obtain⟨l,m,y,rfl,rfl,c,o,q⟩:=h;cases f;obtain⟨u,rfl,ru⟩:=g.one;obtain⟨z,a,n,r,p,e⟩:=I.lstM c;show call_meets F.slot_list_append {_,e,()} F.entry_list_append (F.args_list_append_2 _ _) (PySem.list_append l a.toArray n u (by rw[md];lia)) {e,?_};show{.non,_,I.lset (its':=a++[u]) c e (by simp) (r.append (.cons ru .nil)) ?_,(),q};rw[j1,List.length_singleton];lia
def Gn:V->List V->Hp->VK->Prop:=λx d H Q=>∃l b a c,x=.ref l/\d=[.ref b]/\H l=some (.lst a)/\H b=some (.lst c)/\a.length+c.length<=sizeLine/\Q .non (aH H l (.lst (a++c)))
def vM:MtM X "list.extend" Gn:=by
 intro g s w H x y v A Q I k m h;obtain⟨l,b,B,C,rfl,rfl,i,o,D,q⟩:=h;cases k;obtain⟨u,rfl,ru⟩:=m.one;cases ru;obtain⟨z,c,n,r,E,e⟩:=I.lstM i;obtain⟨G,a,n2,r2,p,t⟩:=I.lstM o;have f:c.toArray.size+a.toArray.size<=sizeLine:=by rw[md,md];lia
 have d:¬(!c.toArray.isEmpty&&Builtin.List.listTooLong (c.toArray.size+a.toArray.size))=true:=by rw[yx f,Bool.and_false];show kw
 show call_meets F.slot_list_extend {_,e,()} F.entry_list_extend (F.args_list_extend_2 _ _) (AutoSeq1.list_extend_list_list_0 l c.toArray n b a.toArray n2 d (by rw[md];lia) (by lia)) {e,t,?_}
 show{.non,_,I.lset (its':=c++a) i e (by simp) (r.append r2) ?_,(),q};rw[j1];lia
def Lc:R2:=λx y H Q=>∃l b a c,x=.ref l/\y=.ref b/\H l=some (.lst a)/\H b=some (.lst c)/\a.length+c.length<=sizeLine/\∀p,H p=none->Q (.ref p) (aH H p (.lst (a++c)))
def ox:kL X (binaryOp .Add) Lc:=by
 intro d s p H x y v u Q I f g h;obtain⟨l,b,t,w,rfl,rfl,i,j,A,q⟩:=h;cases f;cases g;obtain⟨z,c,n,r,B,e⟩:=I.lstM i;obtain⟨C,a,n2,r2,k,m⟩:=I.lstM j;show PySem.P.add_list e m ?_ (by rw[md,md];lia);have o:c.toArray++a.toArray=(c++a).toArray:=by simp
 rw[o];show{.ref _,_,I.lnew (t':=s.toks) (r.append r2) (by rw[j1];lia),(),q _ I.fresh}
def Mg:R2:=λx y H Q=>∃l k a,x=.ref l/\y=.int k/\H l=some (.lst a)/\-(2^63)<=k/\k<2^63/\a.length*k.toNat<=sizeLine/\∀p,H p=none->Q (.ref p) (aH H p (.lst (List.replicate k.toNat a).flatten))
def GZ(a:List c)(k:Nat):(List.replicate k a).flatten.length=k*a.length:=by induction k with|zero=>simp|succ k b=>rw[sD,MQ,j1,b,Nat.succ_mul,Nat.add_comm]
def DP:kL X (binaryOp .Mult) Mg:=by
 intro p s J H x y v u Q I A B h;obtain⟨l,k,K,rfl,rfl,C,h1,h2,w,q⟩:=h;cases A;obtain⟨t,rfl⟩:=B;obtain⟨z,b,n,r,D,e⟩:=I.lstM C;have d:b.toArray.size*k.toNat<=sizeLine:=by rw[md,<-D];show w
 have f:¬b.toArray.size*k.toNat>(2^63-1)/8:=by
  have:(sizeLine:Nat)<=(2^63-1)/8:=by decide
  lia
 have g:¬(!Builtin.List.listFitsIndex k)=true:=by rw[fitsIndex_both h1 h2];show kw
 have c:¬Builtin.List.listTooLong (b.toArray.size*k.toNat)=true:=by rw[yx d];show kw
 have i:List.foldl (λj o=>j++o) #[] (List.replicate (if b.toArray.isEmpty=true then 0 else k.toNat) b.toArray)=(List.replicate k.toNat b).flatten.toArray:=by
  have E:∀m:Nat,List.foldl (λj o=>j++o) #[] (List.replicate m b.toArray)=(List.replicate m b).flatten.toArray:=λm=>by have:=vX b m [];rw[List.nil_append]at this;show this
  rw[E];cases b with|nil=>simp|cons a L=>rw[iA (by simp)]
 show wpAny_binaryOp_repeat_ref (T:="list") (U:="int") (by decide) {_,e,()} (λG=>typeIs_int G k t) noFill_list_mul F.fills_int_mul F.slot_int_rmul repeat_list F.slot_int_index.lookup (call_meets F.slot_int_rmul (typeIs_int s k t) F.entry_int_rmul (F.args_int_rmul_2 _ _) (int___rmul___int_list k t l b.toArray n) {e,(),{_,e,()},call_meets F.slot_list_mul {_,e,()} F.entry_list_mul (F.args_list_mul_2 _ _) (AutoListH.list___mul___list_int_3 l b.toArray n k t g f c) {e,?_}})
 rw[i];show{.ref _,_,I.lnew (t':=s.toks) (r.rep k.toNat) (by rw[GZ,Nat.mul_comm];show w),(),q _ I.fresh}
end
section
variable{c:Type}[DecidableEq c]
def aX(a:List (c×V))(k:c):Option V:=(a.find? λb=>decide (b.1=k)).map (·.2)
def cL(a:List (c×V))(k:c)(v:V):List (c×V):=if(a.any λb=>decide (b.1=k))=true then a.map (λb=>if b.1=k then(b.1,v)else b)else a++[(k,v)]
def dy(a:List (c×V))(k:c):List (c×V):=a.filter λb=>decide (b.1≠k)
def ce{p:c×V}{r:List (c×V)}{k:c}(e:p.1=k):aX (p::r) k=some p.2:=by simp[aX,to,e]
def bG{p:c×V}{r:List (c×V)}{k:c}(e:¬p.1=k):aX (p::r) k=aX r k:=by simp[aX,to,e]
theorem lH(k:c):∀a:List (c×V),(a.any λf=>decide (f.1=k))=(aX a k).isSome
 |[]=>()|p::r=>by
  rw[z7]
  by_cases e:p.1=k
  ·simp only[ce e,m_ e,Bool.true_or,Option.isSome_some]
  ·rw[bG e,me e,Bool.false_or];show lH k r
theorem xJ(k j:c)(y:V):∀a:List (c×V),aX (a.map λf=>if f.1=k then(f.1,y)else f) j=(aX a j).map λx=>if j=k then y else x
 |[]=>()|p::r=>by
  have b:=xJ k j y r;rw[n_]
  by_cases h:p.1=k
  ·rw[i_ h]
   by_cases e:p.1=j
   ·rw[ce (p:=(p.1,y)) e,ce e,M3,i_ (e.symm.trans h)]
   ·rw[bG (p:=(p.1,y)) e,bG e,b]
  ·rw[iA h]
   by_cases e:p.1=j
   ·rw[ce (p:=p) e,ce e,M3,iA (λz=>h (e.trans z))]
   ·rw[bG (p:=p) e,bG e,b]
theorem vp(k j:c)(y:V):∀a:List (c×V),aX a k=none->aX (a++[(k,y)]) j=if j=k then some y else aX a j
 |[],_=>by
  by_cases e:k=j
  ·rw[i_ e.symm];show ce (p:=(k,y)) e
  ·rw[iA (λz=>e z.symm)];show bG (p:=(k,y)) e|p::r,hn=>by
  rw[List.cons_append];have b:¬p.1=k:=λz=>by rw[ce z]at hn;cases hn
  rw[bG b]at hn;have d:=vp k j y r hn
  by_cases e:p.1=j
  ·rw[ce e,ce e,iA (λz=>b (e.trans z))]
  ·rw[bG e,bG e,d]
def oO(f:List (c×V))(k j:c)(y:V):aX (cL f k y) j=if j=k then some y else aX f j:=by
 unfold cL
 by_cases a:(f.any λb=>decide (b.1=k))=true
 ·rw[i_ a,xJ];rw[lH]at a
  by_cases e:j=k
  ·obtain⟨x,d⟩:=z3.mp a;rw[i_ e,e,d,M3,i_ ()]
  ·rw[iA e];cases aX f j with|none=>rfl|some x=>rw[M3,iA e]
 ·rw[iA a];show vp k j y f ?_;rw[lH]at a;cases q:aX f k with|none=>rfl|some x=>rw[q]at a;show(a ()).elim
def gi(a:List (c×V))(k:c)(v:V):(cL a k v).length<=a.length+1:=by
 unfold cL
 split
 ·rw[b_];lia
 ·rw[j1,oi,N1];lia
def pC{a:List (c×V)}{k:c}(v:V)(h:aX a k=none):cL a k v=a++[(k,v)]:=by unfold cL;rw[lH,h];show iA (by decide)
def kK.isSome_eq(r:kK o u):o.isSome=u.isSome:=by cases o with
 |none=>cases u with|none=>rfl|some _=>show(show False from r).elim
 |some _=>cases u with|none=>show(show False from r).elim|some _=>rfl
theorem kK.getD(r:kK o u)(a:a0 d e):a0 (o.getD d) (u.getD e):=by cases o with
 |none=>cases u with|none=>show a|some _=>show(show False from r).elim
 |some _=>cases u with|none=>show(show False from r).elim|some _=>show r
def KV.val{a:List (c×V)}{g:List (c×Value)}(r:KV a g)(k:c):kK (aX a k) (valueAt g k):=by
 unfold KV at r
 induction r with|nil=>show True.intro|@cons p q j d h t i=>
  obtain⟨h1,h2⟩:=h
  by_cases e:p.1=k
  ·have f:q.1=k:=h1.symm.trans e;have b:valueAt (q::d) k=some q.2:=by simp[valueAt,to,f]
   rw[ce e,b];show h2
  ·have f:¬q.1=k:=λz=>e (h1.trans z);have b:valueAt (q::d) k=valueAt d k:=by simp[valueAt,to,f]
   rw[bG e,b];show i
theorem KV.any(r:KV a f)(k:c):(a.any λe=>decide (e.1=k))=f.any λe=>decide (e.1=k):=by
 unfold KV at r
 induction r with|nil=>rfl|cons h t b=>rw[z7,z7,b,h.1]
def KV.repl(r:KV f g)(k:c)(i:a0 y u):KV (f.map λa=>if a.1=k then(a.1,y)else a) (g.map λa=>if a.1=k then(a.1,u)else a):=by
 unfold KV at r⊢
 induction r with|nil=>show .nil|@cons p q d j h t b=>
  rw[n_,n_];show .cons ?_ b;obtain⟨h1,h2⟩:=h
  by_cases e:p.1=k
  ·rw[i_ e,i_ (h1.symm.trans e)];show(h1,i,)
  ·rw[iA e,iA (λz=>e (h1.trans z))];show(h1,h2,)
def KV.put(r:KV a f)(k:c)(g:a0 y u):KV (cL a k y) (stored f k u):=by
 unfold cL stored;rw[r.any k]
 by_cases e:(f.any λb=>decide (b.1=k))=true
 ·rw[i_ e,i_ e];show r.repl k g
 ·rw[iA e,iA e];show Paired.snoc r {(),g}
def KV.drop(r:KV f g)(k:c):KV (dy f k) (without g k):=by
 unfold KV at r⊢;unfold dy without
 induction r with|nil=>show .nil|@cons p q j l h t d=>
  obtain⟨h1,h2⟩:=h;rw[NO,NO]
  by_cases e:p.1=k
  ·have a:¬decide (p.1≠k)=true:=by simp[e]
   have b:¬decide (q.1≠k)=true:=by simp[h1.symm.trans e]
   rw[iA a,iA b];show d
  ·have i:¬q.1=k:=λz=>e (h1.trans z);have a:decide (p.1≠k)=true:=by simp[e]
   have b:decide (q.1≠k)=true:=by simp[i]
   rw[i_ a,i_ b];show .cons (h1,h2,) d
theorem KV.length(r:KV a e):a.length=e.length:=Paired.length r
def uo(a:List (c×V))(k:c):(dy a k).length<=a.length:=yl _ _
end
def nY(r:a0 (kV k) u):(aV P w).is k u=true:=by cases k with|inl i=>obtain⟨t,e⟩:=(show∃t,u=Value.int i t from r);subst e;show yC P w i t|inr x=>obtain⟨t,e⟩:=(show∃t,u=Value.str x t from r);subst e;show rg P w x t
theorem qC:∀{a:List bK}{c:OJ},be (a.map kV) c->ItemsAre (aV P w) a c|[],_,r=>by rw[NT]at r;cases r;show .nil|k::a,_,r=>by rw[n_]at r;cases r with|cons h t=>show .cons (nY h) (qC t)
abbrev KT(H:Hp):List (List bK×V)->List (List bK×Addr×Value)->Prop:=Paired λp q=>p.1=q.1/\H q.2.1=some (.tup (p.1.map kV))/\a0 p.2 q.2.2
def KT.val{H:Hp}{a:List (List bK×V)}{f:List (List bK×Addr×Value)}(r:KT H a f)(k:List bK):kK (aX a k) ((atKey f k).map (·.2)):=by induction r with|nil=>show True.intro|@cons p q i c h t g=>
  obtain⟨h1,_,h2⟩:=h
  by_cases e:p.1=k
  ·have d:q.1=k:=h1.symm.trans e;have b:atKey (q::c) k=some q.2:=by simp[atKey,to,d]
   rw[ce e,b];show h2
  ·have d:¬q.1=k:=λz=>e (h1.trans z);have b:atKey (q::c) k=atKey c k:=by simp[atKey,to,d]
   rw[bG e,b];show g
def KT.repl(r:KT H a f)(k:List bK)(g:a0 y u):KT H (a.map λc=>if c.1=k then(c.1,y)else c) (f.map (putAt k u)):=by induction r with|nil=>show .nil|@cons p q d i h t b=>
  rw[n_,n_];show .cons ?_ b;obtain⟨h1,h2,h3⟩:=h;unfold putAt
  by_cases e:p.1=k
  ·rw[i_ e,i_ (h1.symm.trans e)];show(h1,h2,g,)
  ·rw[iA e,iA (λz=>e (h1.trans z))];show(h1,h2,h3,)
def KT.put(r:KT H a c)(k:List bK)(g:H b=some (.tup (k.map kV)))(f:a0 y u):KT H (cL a k y) (storedH c k b u):=by
 have e:(a.any λd=>decide (d.1=k))=(atKey c k).isSome:=by rw[lH,(r.val k).isSome_eq,Nz]
 unfold cL storedH;rw[e]
 by_cases q:(atKey c k).isSome=true
 ·rw[i_ q,i_ q];show r.repl k f
 ·rw[iA q,iA q];show Paired.snoc r {(),g,f}
def KT.keeps(r:KT H a e)(f:∀b c,H b=some (.tup c)->g b=some (.tup c)):KT g a e:=Paired.mapP r λ_ _ z=>{z.1,f _ _ z.2.1,z.2.2}
section
variable{P:OK}{w:World}{H:Hp}{h:Heap}{a:Addr}
def HK(ok:lG P w H h)(e:Rd H a u):c8 P w H h a u:=e.ok ok
def rB(ok:lG P w H h)(e:Rd H a (.dK c)):c.length<=sizeLine/\(a==sysModules)=false/\∃f,KV c f/\h.DictOf (aV P w) a f:=show c8 P w H h a (.dK c)from HK ok e
def E6(ok:lG P w H h)(e:H a=some (.dK c)):c.length<=sizeLine/\(a==sysModules)=false/\∃f,KV c f/\h.DictOf (aV P w) a f:=rB ok (.inl e)
def oA(ok:lG P w H h)(e:H a=some (.tup (c.map kV))):(tupleKind (aV P w)).is h c a:=by obtain⟨_,b,r,o,h1,h2,n,h3⟩:=(show c8 P w H h a (.tup (c.map kV))from ok a _ e);show{o,b.toArray,n,h1,h2,h3,by simpa using qC r}
def rq(ok:lG P w H h)(e:Rd H a (.dT c)):c.length<=sizeLine/\(a==sysModules)=false/\∃f,KT H c f/\h.DictOfH (tupleKind (aV P w)) a f:=by
 obtain⟨z,y,f,r,o,g,i,h1,h2,h3,h4,j⟩:=(show c8 P w H h a (.dT c)from HK ok e);show{z,y,f,r,o,g,i,h1,h2,h3,h4,λx b=>?_,j};have all:∀{l:List (List bK×V)}{m:List (List bK×Addr×Value)},KT H l m->∀x∈m,(tupleKind (aV P w)).is h x.1 x.2.1:=by
  intro l m q
  induction q with|nil=>intro x b;show nomatch b|@cons p q n s d t k=>
   intro x b;rcases so.mp b with e|b
   ·subst e;show oA ok (by rw[<-d.1];show d.2.1)
   ·show k x b
 show all r x b
def LG(ok:lG P w H h)(e:H a=some (.dT c)):c.length<=sizeLine/\(a==sysModules)=false/\∃f,KT H c f/\h.DictOfH (tupleKind (aV P w)) a f:=rq ok (.inl e)
end
def dq(H:Hp)(a:Addr)(y:V)(r:Option V):Prop:=(∃c k,Rd H a (.dK c)/\y=kV k/\r=aX c k)\/∃c k b,Rd H a (.dT c)/\y=.ref b/\H b=some (.tup (k.map kV))/\r=aX c k
def zh(H:Hp)(a:Addr)(y v:V)(e:Hp):Prop:=(∃c k,H a=some (.dK c)/\y=kV k/\c.length<sizeLine/\e=aH H a (.dK (cL c k v)))\/∃c k b,H a=some (.dT c)/\y=.ref b/\H b=some (.tup (k.map kV))/\c.length<sizeLine/\e=aH H a (.dT (cL c k v))
theorem dq.k{H:Hp}{a:Addr}{c:List (bK×V)}{k:bK}(e:H a=some (.dK c)):dq H a (kV k) (aX c k):=.inl {c,k,.inl e,(),()}
def dq.t{H:Hp}{a b:Addr}{c:List (List bK×V)}{k:List bK}(e:H a=some (.dT c))(f:H b=some (.tup (k.map kV))):dq H a (.ref b) (aX c k):=.inr {c,k,b,.inl e,(),f,()}
theorem zh.k{H:Hp}{a:Addr}{c:List (bK×V)}{k:bK}{v:V}(e:H a=some (.dK c))(f:c.length<sizeLine):zh H a (kV k) v (aH H a (.dK (cL c k v))):=.inl {c,k,e,(),f,()}
def zh.t{H:Hp}{a b:Addr}{c:List (List bK×V)}{k:List bK}{v:V}(e:H a=some (.dT c))(f:H b=some (.tup (k.map kV)))(g:c.length<sizeLine):zh H a (.ref b) v (aH H a (.dT (cL c k v))):=.inr {c,k,b,e,(),f,g,()}
section
variable{X:Cx}{f:OH}{i:St}{H:Hp}{s:Shared}{a:Addr}{y v:V}{u r:Value}{o:Option V}{A:Around}{E:OG}
def aN.big(I:aN X f i H s):sysModules<s.heap.objs.size:=by have h:mainGlobals<s.heap.objs.size:=(I.mod.glob.keeps I.bk).lt;show H_ (by decide) h
def Cp(C:A.units+1<cLine)(I:aN X f i H s)(g:dq H a y (some v))(x:a0 y u)(h:∀j B,aN X f i H B->a0 v j->Q j B):wpAny (model X.prog X.w) A (getItem (.ref a) u) Q E s:=by
 rcases g with⟨m,k,e,n,l⟩|⟨m,k,b,e,n,D,l⟩
 ·subst n;obtain⟨z,hd,F,c,dd⟩:=rB I.hok e;obtain⟨j,q,d⟩:=kK.some_of (v:=v) (o:=valueAt F k) (by rw[l];show c.val k);show wpAny_getItem_of (nY x) dd.mapOf q (h j _ (I.tok _) d)
 ·subst n;cases(show u=Value.ref b from x);obtain⟨z,hd,G,c,dd⟩:=rq I.hok e;obtain⟨j,q,d⟩:=kK.some_of (v:=v) (o:=(atKey G k).map (·.2)) (by rw[l];show c.val k);obtain⟨p,J,t⟩:=Option.map_eq_some_iff.mp q;show wpAny_getItem_heap (MI C) (oA I.hok D) dd J ?_;rw[t];show h j _ (I.tok _) d
def Mr(p:A.units+1<cLine)(I:aN X f i H s)(g:dq H a y o)(m:a0 y u)(h:∀n,aN X f i H n->Q (.bool o.isSome) n):wpAny (model X.prog X.w) A (compareOp .In u (.ref a)) Q E s:=by
 rcases g with⟨d,k,e,j,l⟩|⟨d,k,b,e,j,t,l⟩
 ·subst j;obtain⟨z,hd,x,c,dd⟩:=rB I.hok e;show wpAny_in_of (nY m) hd dd.mapOf ?_;rw[<-(c.val k).isSome_eq,<-l];show h _ (I.tok _)
 ·subst j;cases(show u=Value.ref b from m);obtain⟨z,hd,B,c,dd⟩:=rq I.hok e;show wpAny_in_heap (MI p) (oA I.hok t) hd dd ?_;have q:=(c.val k).isSome_eq;rw[Nz]at q;rw[<-q,<-l];show h _ (I.tok _)
def Hh(p:A.units+1<cLine)(I:aN X f i H s)(g:dq H a y o)(m:a0 y u)(h:∀n,aN X f i H n->Q (.bool (!o.isSome)) n):wpAny (model X.prog X.w) A (compareOp .NotIn u (.ref a)) Q E s:=by
 rcases g with⟨d,k,e,j,l⟩|⟨d,k,b,e,j,t,l⟩
 ·subst j;obtain⟨z,hd,x,c,dd⟩:=rB I.hok e;show wpAny_notIn_of (nY m) hd dd.mapOf ?_;rw[<-(c.val k).isSome_eq,<-l];show h _ (I.tok _)
 ·subst j;cases(show u=Value.ref b from m);obtain⟨z,hd,B,c,dd⟩:=rq I.hok e;show wpAny_notIn_heap (MI p) (oA I.hok t) hd dd ?_;have q:=(c.val k).isSome_eq;rw[Nz]at q;rw[<-q,<-l];show h _ (I.tok _)
def pZ(I:aN X f i H s)(c:LO (H a))(g:Heap.SameBut a s.heap h')(h:∃q,h'.get? a=some q)(new:c8 X.prog X.w (aH H a ob) h' a ob):aN X f i (aH H a ob) {s with heap:=h',toks:=j}:=I.write (x:=a) (e:=a) c (.inl ()) (λb q d z=>(g.2 b d).trans z) h new
def Ah(z:c.length<=sizeLine)(hd:(a==sysModules)=false)(e:KV c g)(dd:h'.DictOf (aV P w) a g):c8 P w h h' a (.dK c):=(z,hd,g,e,dd,)
def wb(M:A.units+1<cLine)(I:aN X f i H s)(g:zh H a y v N)(F:a0 y u)(G:a0 v r)(h:∀J,aN X f i N J->Q Unit.unit J):wpAny (model X.prog X.w) A (setItem (.ref a) u r) Q E s:=by
 rcases g with⟨d,k,e,p,l,t⟩|⟨d,k,b,e,p,K,l,t⟩
 ·subst p t;obtain⟨z,hd,O,j,dd⟩:=E6 I.hok e;have x:O.length<=sizeLine:=by rw[<-j.length];show z
  have B:(cL d k v).length<=sizeLine:=by have:=gi d k v;lia
  show wpAny_setItem_pairs (hsz:=x) (nY F) dd λh' m D=>h _ ?_;have P:∃q,h'.get? a=some q:=let⟨q,_,_,n,_⟩:=m;(q,n,);show pZ I (by rw[e];show True.intro) D P (Ah B hd (j.put k G) m)
 ·subst p t;cases(show u=Value.ref b from F);obtain⟨z,hd,R,j,dd⟩:=LG I.hok e;have x:R.length<=sizeLine:=by rw[<-Paired.length j];show z
  have B:(cL d k v).length<=sizeLine:=by have:=gi d k v;lia
  show wpAny_setItem_heap (hsz:=x) (MI M) (oA I.hok K) dd λh' m D=>h _ ?_;obtain⟨q,S,T,n,h2,h3,h4,_,U⟩:=m;show pZ I (by rw[e];show True.intro) D (q,n,) {B,hd,_,(j.put k K G).keeps λc W L=>?_,q,S,T,n,h2,h3,h4,U};rw[aq (Lh L e (nofun))];show L
end
section
variable{X:Cx}{f:OH}{g:St}{H:Hp}{s:Shared}{a:Addr}{c:List (bK×V)}{k:bK}{u:Value}{A:Around}{E:OG}
def LH(I:aN X f g H s)(e:H a=some (.dK c))(n:a0 (kV k) u)(l:aX c k=some v)(hm:j=[]\/∃x,j=[x])(h:∀m r,aN X f g (aH H a (.dK (dy c k))) r->a0 v m->Q m r):wpAny (model X.prog X.w) A (call (.builtin "dict.pop") (.ref a::u::j)) Q E s:=by
 obtain⟨z,hd,y,b,dd⟩:=E6 I.hok e;obtain⟨m,B,p⟩:=kK.some_of (v:=v) (o:=valueAt y k) (by rw[<-l];show b.val k);have C:(keyPart u).isSome=true:=by cases k with|inl i=>obtain⟨t,q⟩:=(show∃t,u=Value.int i t from n);subst q;rfl|inr x=>obtain⟨t,q⟩:=(show∃t,u=Value.str x t from n);subst q;rfl
 have D:argsOk "dict.pop" {.ref a::u::j,[]}:=by
  rcases hm with q|⟨x,q⟩
  ·subst q;show PySem.F.args_dict_pop_2 _ _
  ·subst q;show PySem.F.args_dict_pop_3 _ _ _
 show MK PySem.F.slot_dict_pop dd.typeIs PySem.F.entry_dict_pop D (meets_dict_pop_there (aV X.prog X.w) a (nY n) j hm C) {y,m,dd,by rw[<-b.length];show z,B,λh' d G=>h m _ ?_ p}
 have J:∃q,h'.get? a=some q:=let⟨q,_,_,K,_⟩:=d;(q,K,);show pZ I (by rw[e];show True.intro) G J (Ah (lm (uo c k) z) hd (b.drop k) d)
end
def LN(i:Expr):Prop:=∀a iv,subscripted i false a iv=operate [a,iv] (getItem a iv)
def FL{prog:OK}{w:World}{A:Around}{E:OG}{s:Shared}{env:Env}{c a:Expr}{j:Pos}{T id:String}{Q:OG}(l:typeLookup (.type T) "__getitem__"=pure (some (.builtin id)))(m:LN a)(h:wpAny (model prog w) A (eval c env) (λo s₁=>wpAny (model prog w) A (eval a env) (λi e=>e.TypeIs o T/\wpAny (model prog w) A (getItem o i) Q E e) E s₁) E s):wpAny (model prog w) A (eval (.Subscript c a j) env) Q E s:=by
 show Subscript_ (wpAny_mono h (λo s₁ f=>wpAny_mono f (λi e b=>?_) λ_ _ x=>x) λ_ _ x=>x);obtain⟨k,b⟩:=b;unfold subscriptTail;show a_ ?_;rw[getitemInPython_of_ne k.not_modules];show a_ (NU k l ?_);have fin:wpAny (model prog w) A (subscripted a false o i) (λr d=>wpAny (model prog w) A (letTemporaryGo c o r>>=λ_=>pure r) Q E d) E e:=by rw[m o i];show wpAny_operating (wpAny_mono b (λr d g=>a_ (wpAny_letTemporaryGo (f_ g))) λ_ _ x=>x)
 first|show f_ (a_ fin)|show a_ (f_ (a_ fin))|show a_ fin
def yS(I:aN X f h H s)(g:dq H a y o):s.TypeIs (.ref a) "dict":=by
 rcases g with⟨c,k,e,_,_⟩|⟨c,k,b,e,_,_,_⟩
 ·obtain⟨_,_,d,_,dd⟩:=rB I.hok e;show dd.typeIs
 ·obtain⟨_,_,i,_,dd⟩:=rq I.hok e;show dd.typeIs
def KK(e ty:TE):TE:=λb H Q=>e b H λx d=>ty b d λy c=>∃a v,x=.ref a/\dq c a y (some v)/\Q v c
def Ma(ty e:TE):TE:=λb H Q=>ty b H λy d=>e b d λx c=>∃a o,x=.ref a/\dq c a y o/\Q (.bl o.isSome) c
def FK(ty e:TE):TE:=λb H Q=>ty b H λy d=>e b d λx c=>∃a o,x=.ref a/\dq c a y o/\Q (.bl (!o.isSome)) c
def KZ(e ty f:TE):TS:=λD b H=>f b H λv d=>e b d λx g=>ty b g λy h=>∃a c,x=.ref a/\zh h a y v c/\D.nx b c
section
variable{X:Cx}{o i c:Expr}{l j:Pos}{f ty m:TE}
def cF(r:X.A.units+1<cLine)(w:PE X o f)(hi:PE X i ty)(z:LN i):PE X (.Subscript o i l) (KK f ty):=by intro b s p H Q I h;show FL PySem.F.slot_dict_getitem.lookup z (cw (w b s p H _ I h) λu t d=>?_);obtain⟨x,B,I1,C,D⟩:=d;show cw (hi b t p B _ I1 D) λiv L d=>?_;obtain⟨y,E,q,G,a,v,ex,g,J⟩:=d;subst ex;obtain rfl:u=Value.ref a:=C;show{yS q g,Cp r q g G λM N K k=>(v,E,K,k,J,)}
def ou(p:X.A.units+1<cLine)(hi:PE X i ty)(q:PE X o f):PC X .In i o (Ma ty f):=by intro b s k H Q I h;show cw (hi b s k H _ I h) λiv r d=>?_;obtain⟨y,t,I1,v,w⟩:=d;show cw (q b r k t _ I1 w) λu G d=>?_;obtain⟨x,z,B,C,a,D,ex,g,E⟩:=d;subst ex;obtain rfl:u=Value.ref a:=C;show Mr p B g v λJ F=>{.bl D.isSome,z,F,(),E}
def mV(p:X.A.units+1<cLine)(hi:PE X i ty)(q:PE X o f):PC X .NotIn i o (FK ty f):=by intro b s k H Q I h;show cw (hi b s k H _ I h) λiv r d=>?_;obtain⟨y,t,I1,v,w⟩:=d;show cw (q b r k t _ I1 w) λu G d=>?_;obtain⟨x,z,B,C,a,D,ex,g,E⟩:=d;subst ex;obtain rfl:u=Value.ref a:=C;show Hh p B g v λJ F=>{.bl (!D.isSome),z,F,(),E}
def Gq(p:X.A.units+1<cLine)(q:PE X o f)(hi:PE X i ty)(w:PE X c m)(z:swapsWith c (some (.Subscript o i j)) l.line X.env=pure false):PS X (.Assign [.Subscript o i j] c l) (KZ f ty m):=by intro b s d H D I h;show wpAny_Assign_Subscript (cw (w b s d H _ I h) λr k⟨v,t,I1,B,C⟩=>cw (q b k d t _ I1 C) λu E⟨x,F,G,J,K⟩=>cw (hi b E d F _ G K) λiv Q⟨y,R,L,M,a,N,ex,g,O⟩=>?_) z;subst ex;obtain rfl:u=Value.ref a:=J;show wb p L g M B λS P=>(d,N,P,O,)
end
def yR(h:Heap)(a:sysModules<h.objs.size):c8 P w H (h.push {cls:=.type "dict",data:=.dict #[]}) h.objs.size (.dK []):={np _,E1.mpr (o8 (m3 a)),[],.nil,Heap.DictOf.new h}
def E4(h:Heap)(a:sysModules<h.objs.size):c8 P w H (h.push {cls:=.type "dict",data:=.dict #[]}) h.objs.size (.dT []):={np _,E1.mpr (o8 (m3 a)),[],.nil,_,#[],0,h_ _ (),{(),(),()},(),(),MT}
def IA:TE:=λ_ H Q=>∀p,H p=none->Q (.ref p) (aH H p (.dK []))
def Iy:TE:=λ_ H Q=>∀p,H p=none->Q (.ref p) (aH H p (.dT []))
section
variable{X:Cx}{c:Pos}
def fP:PE X (.Dict [] [] c) IA:=λb s d H Q I h=>wpAny_Dict_empty {.ref s.heap.objs.size,_,I.laid (a:=s.heap.objs.size) (o:=.dK []) (t':=s.toks) (λ_ _ q=>c_ _ q) (e_ _) (yR s.heap I.big),(),h _ (I.hok.fresh (e_ _))}
def DN:PE X (.Dict [] [] c) Iy:=λb s d H Q I h=>wpAny_Dict_empty {.ref s.heap.objs.size,_,I.laid (a:=s.heap.objs.size) (o:=.dT []) (t':=s.toks) (λ_ _ q=>c_ _ q) (e_ _) (E4 s.heap I.big),(),h _ (I.hok.fresh (e_ _))}
end
def zo:List (TE×TE)->St->Hp->(List (V×V)->Hp->Prop)->Prop|[],_,H,Q=>Q [] H|(tk,b)::r,a,H,Q=>tk a H λx c=>b a c λy d=>zo r a d λe f=>Q ((x,y)::e) f
abbrev VV:List (V×V)->List (Value×Value)->Prop:=Paired λp q=>a0 p.1 q.1/\a0 p.2 q.2
def L0(X:Cx)(c:Pos)(keys:List (Option Expr))(a:OM)(trs:List (TE×TE)):Prop:=∀(b:OH)(s:Shared)(d:St)(H:Hp)(Q:List (V×V)->Hp->Prop),aN X b d H s->zo trs d H Q->wpAny (model X.prog X.w) X.A (evalPairs (pairTrees keys a X.env c)) (λg h=>∃e f,aN X b d f h/\VV e g/\Q e f) X.xe s
def Gv:L0 X c [] [] []:=λa s b H Q I h=>pairTrees_nil_walk {[],H,I,.nil,h}
def mh(e:PE X k tk)(f:PE X v g)(i:L0 X c j l trs):L0 X c (some k::j) (v::l) ((tk,g)::trs):=λa s b H Q I h=>pairTrees_cons_walk (cw (e a s b H _ I h) λu m⟨x,n,I1,o,p⟩=>cw (f a m b n _ I1 p) λE q⟨y,r,t,w,z⟩=>cw (i a q b r _ t z) λF G⟨A,B,C,d,D⟩=>{(x,y)::A,B,C,.cons (o,w,) d,D})
def qy(c a:List (bK×V)):List (bK×V):=a.foldl (λb d=>cL b d.1 d.2) c
def KV.merge:∀{a:List (bK×V)}{g:List (bK×Value)}{c:List (bK×V)}{f:List (bK×Value)},KV a g->KV c f->KV (qy c a) (merged f g):=by
 intro a g c f r;unfold KV at r
 induction r generalizing c f with|nil=>intro q;show q|@cons p q i j h t b=>
  intro d;have e:KV (cL c p.1 p.2) (stored f q.1 q.2):=by have:=d.put p.1 h.2;rw[<-h.1];show this
  show b e
theorem nV:∀(c a:List (bK×V)),(qy a c).length<=a.length+c.length|[],a=>by change a.length<=a.length+0;lia|p::r,a=>by have h1:=nV r (cL a p.1 p.2);have h2:=gi a p.1 p.2;change(qy (cL a p.1 p.2) r).length<=_;rw[oi];lia
theorem uv:∀{e:List (bK×V)}{g:List (Value×Value)},VV (e.map λi=>(kV i.1,i.2)) g->∃f,Carries (aV P w) g f/\KV e f|[],_,r=>by rw[NT]at r;cases r;show{[],True.intro,.nil}|p::e,_,r=>by rw[n_]at r;cases r with|@cons a b d bs h t=>obtain⟨f,c,q⟩:=uv (P:=P) (w:=w) t;obtain⟨b1,b2⟩:=b;show{(p.1,b2)::f,{nY h.1,(),c},.cons {(),h.2} q}
def KJ(trs:List (TE×TE)):TE:=λd H Q=>∀p,H p=none->zo trs d (aH H p (.dK [])) λe b=>b p=some (.dK [])/\∃a:List (bK×V),e=a.map (λc=>(kV c.1,c.2))/\a.length<=15/\Q (.ref p) (aH b p (.dK (qy [] a)))
def GC(h:L0 X j keys f trs)(g:keys.all (·.isSome)=true)(n:keys.length=f.length)(h0:keys≠[])(l:keys.length<=15):PE X (.Dict keys f j) (KJ trs):=by
 intro b s p H Q I q;have hn:=I.hok.fresh (e_ s.heap.objs.size);have I1:=I.laid (a:=s.heap.objs.size) (o:=.dK []) (h':=s.heap.push {cls:=.type "dict",data:=.dict #[]}) (t':=s.toks) (λ_ _ q=>c_ _ q) (e_ _) (yR s.heap I.big);show wpAny_Dict_walk (knd:=aV X.prog X.w) g n h0 l (cw (h b _ p _ _ I1 (q _ hn)) λJ K t=>?_);obtain⟨L,M,m,k,e,d,u,lk,v⟩:=t;subst u;obtain⟨x,c,y⟩:=uv (P:=X.prog) (w:=X.w) k;obtain⟨z,hd,A,B,dd⟩:=E6 m.hok e;cases B;show{x,c,dd,λh' i C=>{.ref s.heap.objs.size,_,?_,(),v}};have D:(qy [] d).length<=sizeLine:=by have h1:=nV d [];rw[N1]at h1;rw[ji];lia
 have E:∃q,h'.get? s.heap.objs.size=some q:=let⟨q,_,_,F,_⟩:=i;(q,F,);show pZ m (by rw[e];show True.intro) C E (Ah D hd (y.merge .nil) i)
structure M1(X:Cx)(o:Expr)(m:Str)(apos:Pos)(e:Expr)(cpos:Pos):Prop where
 base:attributeBase o m X.env (eval o X.env)=eval o X.env
 few:((backTo cpos (starEach [e] X.env)).all (λx=>!x.1)&&(backToKw cpos (keywordEach [] X.env)).all (λx=>x.1.isSome)&&decide (([e]:OM).length+([]:List Keyword).length+(if([]:List Keyword).isEmpty then 0 else 1)<30))=true
 line:(apos.endLine==cpos.line)=true
 trees:backTo cpos (starEach [e] X.env)=[(false,eval e X.env)]
structure M2(X:Cx)(o:Expr)(m:Str)(apos:Pos)(e f:Expr)(cpos:Pos):Prop where
 base:attributeBase o m X.env (eval o X.env)=eval o X.env
 few:((backTo cpos (starEach [e,f] X.env)).all (λx=>!x.1)&&(backToKw cpos (keywordEach [] X.env)).all (λx=>x.1.isSome)&&decide (([e,f]:OM).length+([]:List Keyword).length+(if([]:List Keyword).isEmpty then 0 else 1)<30))=true
 line:(apos.endLine==cpos.line)=true
 trees:backTo cpos (starEach [e,f] X.env)=[(false,eval e X.env),(false,eval f X.env)]
def L5(H:Hp)(a:Addr):Prop:=(∃b,Rd H a (.dK b))\/∃b,Rd H a (.dT b)
def zX(I:aN X f g H s)(d:L5 H a):s.TypeIs (.ref a) "dict"/\(∀b,Value.ref a=.ref b->∃ob,s.heap.get? b=some ob/\ob.dict=none)/\(a==sysModules)=false:=by
 rcases d with⟨c,e⟩|⟨c,e⟩
 ·obtain⟨_,hd,h,_,dd⟩:=rB I.hok e;show{dd.typeIs,λb q=>?_,hd};cases q;obtain⟨ob,_,_,h1,h2,_⟩:=dd;show(ob,h1,h2.2.1,)
 ·obtain⟨_,hd,i,_,dd⟩:=rq I.hok e;show{dd.typeIs,λb q=>?_,hd};cases q;obtain⟨ob,_,_,h1,h2,_⟩:=dd;show(ob,h1,h2.2.1,)
section
variable{X:Cx}{c:OH}{f:St}{H:Hp}{s:Shared}{a:Addr}{y d:V}{u r:Value}{o:Option V}{A:Around}{E:OG}
def J7(v:A.units+1<cLine)(I:aN X c f H s)(g:dq H a y o)(n:a0 y u)(h:∀p q,aN X c f H q->a0 (o.getD .non) p->Q p q):wpAny (model X.prog X.w) A (call (.builtin "dict.get") [.ref a,u]) Q E s:=by
 rcases g with⟨j,k,e,m,l⟩|⟨j,k,b,e,m,t,l⟩
 ·subst m;obtain⟨z,hd,B,i,dd⟩:=rB I.hok e;show MK PySem.F.slot_dict_get dd.typeIs PySem.F.entry_dict_get (PySem.F.args_dict_get_2 _ _) (meets_dict_get (aV X.prog X.w) a (nY n) hd) {_,dd.mapOf,h _ _ (I.tok _) ?_};rw[l];show(i.val k).getD ()
 ·subst m;cases(show u=Value.ref b from n);obtain⟨z,hd,x,i,dd⟩:=rq I.hok e;show MK PySem.F.slot_dict_get dd.typeIs PySem.F.entry_dict_get (PySem.F.args_dict_get_2 _ _) (meetsH_dict_get (tupleKind (aV X.prog X.w)) a b hd) {MI v,k,x,oA I.hok t,dd,h _ _ (I.tok _) ?_};rw[l];show(i.val k).getD ()
def J6(x:A.units+1<cLine)(I:aN X c f H s)(g:dq H a y o)(n:a0 y u)(p:a0 d r)(h:∀q v,aN X c f H v->a0 (o.getD d) q->Q q v):wpAny (model X.prog X.w) A (call (.builtin "dict.get") [.ref a,u,r]) Q E s:=by
 rcases g with⟨j,k,e,m,l⟩|⟨j,k,b,e,m,t,l⟩
 ·subst m;obtain⟨z,hd,C,i,dd⟩:=rB I.hok e;show MK PySem.F.slot_dict_get dd.typeIs PySem.F.entry_dict_get (PySem.F.args_dict_get_3 _ _ _) (meets_dict_get_default (aV X.prog X.w) a (nY n) hd r) {_,dd.mapOf,h _ _ (I.tok _) ?_};rw[l];show(i.val k).getD p
 ·subst m;cases(show u=Value.ref b from n);obtain⟨z,hd,B,i,dd⟩:=rq I.hok e;show MK PySem.F.slot_dict_get dd.typeIs PySem.F.entry_dict_get (PySem.F.args_dict_get_3 _ _ _) (meetsH_dict_get_default (tupleKind (aV X.prog X.w)) a b hd r) {MI x,k,B,oA I.hok t,dd,h _ _ (I.tok _) ?_};rw[l];show(i.val k).getD p
end
def IC(e ty:TE):TE:=λb H Q=>e b H λx c=>∃a,x=.ref a/\L5 c a/\ty b c λy d=>∃o,dq d a y o/\Q (o.getD .non) d
def IB(e ty f:TE):TE:=λb H Q=>e b H λx c=>∃a,x=.ref a/\L5 c a/\ty b c λy g=>f b g λz d=>∃o,dq d a y o/\Q (o.getD z) d
def Ix(f ty:TE):TE:=λc H Q=>f c H λx d=>∃a,x=.ref a/\L5 d a/\ty c d λy e=>∃b k v,e a=some (.dK b)/\y=kV k/\aX b k=some v/\Q v (aH e a (.dK (dy b k)))
section
variable{X:Cx}{o e f:Expr}{i c:Pos}{j ty n:TE}
def tX(q:X.A.units+1<cLine)(r:PE X o j)(v:PE X e ty)(m:M1 X o "get" i e c):PE X (.Call (.Attribute o "get" i) [e] [] c) (IC j ty):=by intro b s p H Q I h;show M_ m.base m.few m.line PySem.F.plainAttrs_dict PySem.F.slot_dict_get PySem.F.type_dict_get (cw (r b s p H _ I h) λu t k=>?_);obtain⟨x,w,I1,z,a,ex,d,B⟩:=k;subst ex;obtain rfl:u=Value.ref a:=z;obtain⟨C,D,_⟩:=zX I1 d;show{C,D,?_};rw[m.trees];show tA () (z_ (th (cw (v b t p w _ I1 B) λiv M k=>?_)));obtain⟨y,E,G,J,N,g,K⟩:=k;show B_ ?_;show J7 q G g J λO P L l=>{_,E,L,l,K}
def tW(p:X.A.units+1<cLine)(q:PE X o j)(r:PE X e ty)(v:PE X f n)(m:M2 X o "get" i e f c):PE X (.Call (.Attribute o "get" i) [e,f] [] c) (IB j ty n):=by
 intro b s k H Q I h;show M_ m.base m.few m.line PySem.F.plainAttrs_dict PySem.F.slot_dict_get PySem.F.type_dict_get (cw (q b s k H _ I h) λu t w=>?_);obtain⟨x,B,I1,C,a,ex,d,D⟩:=w;subst ex;obtain rfl:u=Value.ref a:=C;obtain⟨E,G,_⟩:=zX I1 d;show{E,G,?_};rw[m.trees];show tA () (z_ (th (cw (r b t k B _ I1 D) λiv J⟨y,K,L,M,N⟩=>th (cw (v b J k K _ L N) λU V⟨z,O,P,R,W,g,S⟩=>B_ ?_))))
 show J6 p P g M R λY Z T l=>{_,O,T,l,S}
def tV(r:PE X o j)(w:PE X e ty)(m:M1 X o "pop" i e c):PE X (.Call (.Attribute o "pop" i) [e] [] c) (Ix j ty):=by intro b s q H Q I h;show M_ m.base m.few m.line PySem.F.plainAttrs_dict PySem.F.slot_dict_pop PySem.F.type_dict_pop (cw (r b s q H _ I h) λu t g=>?_);obtain⟨x,z,I1,A,a,ex,d,B⟩:=g;subst ex;obtain rfl:u=Value.ref a:=A;obtain⟨C,D,_⟩:=zX I1 d;show{C,D,?_};rw[m.trees];show tA () (z_ (th (cw (w b t q z _ I1 B) λiv O g=>?_)));obtain⟨y,P,E,G,J,k,v,K,L,l,M⟩:=g;show B_ ?_;subst L;show LH E K G l (.inl ()) λR S N p=>{v,_,N,p,M}
end
end L2
namespace Att
open PySem PySem.W PySem.Calls PyProof.Rows
def sr:∀(ns:OQ)(c:OJ),WellAll P h c (ns.map WData.int)->IntsAre c ns:=by
 intro ns
 induction ns with|nil=>intro c w;rw[NT]at w;cases w;show .nil|cons n ns d=>intro c w;rw[n_]at w;cases w with|cons a b=>cases a;show .cons _ _ (d _ b)
def BL{l:OpenLaw}{n:Nat}(hn:l.most=some n){P:Params}{h:Heap}{args:List WData}{c:OJ}(e:l.row.toRowW.claim.pre args=true)(i:WellAll P h c args):∃a m ns,c=[Value.ref a]/\args=[WData.list (ns.map WData.int)]/\h.get? a=some {cls:=.type "list",data:=.seq m.toArray}/\IntsAre m ns/\ns.length<=n:=by
 have j:WShape.hasAll [] args [.list .int]=true:=(pre_splitW e).1;have hc:l.pre.holds [] {args:=args}=true:=(pre_splitW e).2;obtain⟨d,r,rfl,h1,h2⟩:=hasAllW_cons j;obtain rfl:=hasAllW_nil h2;obtain⟨t,rfl,h3⟩:=hasW_list h1;obtain⟨ns,rfl⟩:=items_int h3;have b:ns.length<=n:=by
  unfold OpenLaw.pre at hc;have h4:(WTm.not (.lt (.lit (.int (n:Int))) (.len (.arg 0)))).holds [] {args:=[.list (ns.map .int)]}=true:=by have h4:=(holds_andW hc).1;rw[hn]at h4;show h4
  have g:=condW_of h4 (w_not (w_lt w_lit (w_len_list (w_arg ()))));rw[b_]at g;show Ov λq=>?_;have k:(n:Int)<((ns.length:Nat):Int):=by lia
  first|(rw[m_ k]at g;show absurd g (by decide))|(simp at g;lia)
 cases i with|cons o p=>cases p;cases o with|list s f=>show{_,_,ns,(),(),s,sr ns _ f,b}
def BQ(l:OpenLaw)(args:List WData):l.row.toRowW.claim.post args (.bool true) args=true:=postW_of (r:=l.row.toRowW) (X:=(true==true)) (show WShape.has [] (.bool true) .bool=true by first|rfl|decide|simp[WShape.has,WShape.arms,WShape.armsAll]) (show(WTm.eq .res (.lit (.bool true))).value [] {args:=args,res:=some (.bool true),after:=args}=some (.bool (true==true))from w_eq_bool (w_res ()) w_lit) ()
def zf{l:OpenLaw}{n:Nat}{q:OK}{c:OL}{x:(Str->Option Value)->Heap->Prop}{y:World->Heap->Prop}{d:DefRec}(hn:l.most=some n)(p:d.params.defaults=[])(call:∀(w:World)(s₀ s₁:Shared)(mg s:OI)(h:Addr)(o:Obj)(pm cd e:Value)(a:Addr)(g:OJ)(ns:OQ),Ground q c [] x w s₀ mg s s₁.heap->y w s₁.heap->s₁.heap.get? h=some o->o.data=.func (docDef d.name d.params d.body d.scope pm cd e)->s₁.heap.CodeRec cd d.name->mg d.name=some (.ref h)->s₁.heap.get? a=some {cls:=.type "list",data:=.seq g.toArray}->IntsAre g ns->ns.length<=n->s₁.gens=#[]->codeAny (model l.prog w) callerA (.call (.ref h) {[.ref a],[]}) (λr m=>r=.ok (.ret (.bool true))/\OldK s₁.heap m.heap/\m.os=s₁.os/\AllBare m.gens) s₁):WalkO q c x y l.row.toRowW d [] (λf g=>PySem.call f g):=by intro w s₀ s₁ mg s G Y h o pm cd e D kV E hd t z u hg A B J i C F v H;obtain rfl:D=.none:=Dflts.none z p;obtain rfl:kV=.none:=Dflts.noKw z;obtain⟨a,g,ns,rfl,rfl,j,b,k⟩:=BL hn i v;show enter_call (MJ (call w s₀ s₁ mg s h o pm cd e a g ns G Y E (fd_plain hd) t u j b k hg) λr m I=>?_);obtain⟨rfl,h2,h3,h4⟩:=I;show{.inl {.bool true,.bool true,[],(),λ_=>(),.bool true,BQ l _,λ_=>{List.Pairwise.nil,λ_ hm=>(nomatch hm)}},h2,h3,h4}
end Att
namespace L2
open PySem PySem.Spec PyProof.Rows
theorem vn:∀{a:OJ}{ns:OQ},IntsAre a ns->be (ns.map V.int) a|_,_,.nil=>.nil|_,_,.cons n t h=>.cons {t,()} (vn h)
def xD(H:Hp):Prop:=∀b,H b=none\/∃o a,H b=some (.frz o (.lst a))
def EC{P:OK}{w:World}{K:OF}{mg J:OI}{T:zi}{k:Nat}{L a:Addr}{fd:FuncData}{x:Str}{sp:Sp}{s₁:Shared}{l:OJ}{ns:OQ}(X:K.In s₁.heap)(y:s₁.heap.Ns mainGlobals mg)(f:s₁.heap.Ns builtinsNs J)(M:∀x:Str,x≠"__name__"->J x=bootBuiltins x)(A:s₁.heap.NoLimit)(hg:s₁.gens=#[])(I:s₁.heap.get? a=some {cls:=.type "list",data:=.seq l.toArray})(hi:IntsAre l ns)(Z:ns.length<=sizeLine)(hr:eZ k callerA)(F:∀base:Heap,K.In base->base.Ns mainGlobals mg->aT P w K mg base T k L fd [x] sp)(p:∀(s:Shared)(u:Value),BindsTo s fd {[u],[]} [(x,u)])(N:∀H:Hp,xD H->aW K H a (ns.map V.int)->sp [.ref a] H (λv _=>v=.bl true) λ_ _ _=>False)(Q:∀H e g,T [] H s₁ (λ_ _ _=>False) e g->False):codeAny (model P w) callerA (.call (.ref L) {[.ref a],[]}) (λr g=>r=.ok (.ret (.bool true))/\OldK s₁.heap g.heap/\g.os=s₁.os/\AllBare g.gens) s₁:=by
 have U:=vn hi;have t:=hi.length;have j:∀H:Hp,xD H->aW K H a (ns.map V.int)->lG P w H s₁.heap->(∀b,H b≠none->b=a)->(H a≠none->K.lookup a=none)->codeAny (model P w) callerA (.call (.ref L) {[.ref a],[]}) (λr g=>r=.ok (.ret (.bool true))/\OldK s₁.heap g.heap/\g.os=s₁.os/\AllBare g.gens) s₁:=by
  intro H Y hS hok hA hK;have c:∀{b:Addr}{o:Obj},s₁.heap.get? b=some o->H b=none->(xc s₁.heap H).get? b=some o:=λe n=>EQ e n;have O:∀{b:Addr}{o:Obj}{B:Array DictEntry}{C:Nat},s₁.heap.get? b=some o->o.data=.dict B C->H b=none:=λ{b o B C}e d=>by cases q:H b with|none=>rfl|some u=>have R:b=a:=hA b (by rw[q];simp);subst R;rw[I]at e;cases e;have d':Data.seq l.toArray _=Data.dict B C:=d;cases d'
  have i:∀{b:Addr}{m:OI},s₁.heap.Ns b m->(xc s₁.heap H).Ns b m:=λ{b m}⟨o,B,C,e,d,r⟩=>{o,B,C,c e (O e d),d,r};have D:K.In (xc s₁.heap H):=λb o e=>c (X b o e) (by cases q:H b with|none=>rfl|some u=>have R:b=a:=hA b (by rw[q];simp);subst R;rw[hK (by rw[q];simp)]at e;cases e)
  have hM:LP K mg (xc s₁.heap H):={D,i y,{J,i f,M},let⟨mc,h1,h2⟩:=A;{mc,i h1,h2}};have e0:Aw P w K mg (xc s₁.heap H) callerA [] s₁ H:={(),hM,λb o e=>GL e,MY (Cf _ _),trivial,λb f=>absurd (show b∈([]:OP)from f) (by simp),hok,.of_eq hg};show MJ ((F _ D (i y)).run callerA [] s₁ H {[.ref a],[]} [.ref a] [.ref a] _ _ hr e0 (p s₁ (.ref a)) (.cons () .nil) (N H Y hS)) λr g h=>?_;cases r with|error e=>show(Q H e g h).elim|ok fl=>cases fl with|next=>show False.elim h|brk=>show False.elim h|cont=>show False.elim h|ret u=>obtain⟨v,H',os,bare,un,E,r',q⟩:=h;have q':v=.bl true:=q;subst q';obtain rfl:u=Value.bool true:=r';show{(),OldK.of_keep λb o e=>?_,os,bare};cases q:H b with|none=>show un.keep b o e q (by intro z;show absurd (show b∈([]:OP)from z) (by simp)) (by simp)|some u=>
     rcases Y b with z|⟨ob,xs,z⟩
     ·rw[q]at z;cases z
     ·have z2:=un.frzs b ob _ z;obtain⟨e1,_⟩:=hok b _ z;obtain⟨e2,_⟩:=E b _ z2;rw[e]at e1;cases e1;show e2
 cases S:K.lookup a with|some o=>have e:=X a o S;rw[I]at e;cases e;show j (λ_=>none) (λ_=>.inl ()) (.inr {_,l.toArray,_,S,(),(),(),by rw[md,t];show Z,by simpa using U}) (λb u z=>by have G:(none:Option HO)=some u:=z;cases G) (λb z=>absurd () z) λz=>absurd () z|none=>
  show j (λb=>if b=a then some (.frz {cls:=.type "list",data:=.seq l.toArray} (.lst (ns.map V.int)))else none) (λb=>?_) (.inl (.inr {{cls:=.type "list",data:=.seq l.toArray},i_ ()})) (λb u z=>?_) (λb z=>?_) λ_=>S
  ·by_cases f:b=a
   ·show .inr {_,_,i_ f}
   ·show .inl (iA f)
  ·by_cases f:b=a
   ·have G:=(i_ f).symm.trans z;cases G;subst f;show{I,by rw[b_];show Z,l,_,U,I}
   ·have G:=(iA f).symm.trans z;cases G
  ·by_cases f:b=a
   ·show f
   ·show absurd (iA f) z
abbrev KOf{K:OF}{h:Heap}(_:K.In h):OF:=K
def FF{l:PySem.W.OpenLaw}{n k:Nat}{q:OK}{i:OL}{I:(Str->Option Value)->Heap->Prop}{C:World->Heap->Prop}{d:DefRec}{K:Params->OF}{CX:World->zi}{sp:World->Sp}{x:Str}(hn:l.most=some n)(r:n<=sizeLine)(y:d.params.defaults=[])(J:eZ k callerA)(L:∀(w:World)(h:Heap),C w h->(K w.params).In h)(F:∀(w:World)(mg:OI)(p:Addr)(h:Heap),(K w.params).In h->h.Ns mainGlobals mg->mg d.name=some (.ref p)->∃fd:FuncData,(∀(s:Shared)(u:Value),BindsTo s fd {[u],[]} [(x,u)])/\∀base:Heap,(K w.params).In base->base.Ns mainGlobals mg->aT l.prog w (K w.params) mg base (CX w) k p fd [x] (sp w))(z:∀(w:World)(H:Hp)(a:Addr)(ns:OQ),ns.length<=n->xD H->aW (K w.params) H a (ns.map V.int)->sp w [.ref a] H (λv _=>v=.bl true) λ_ _ _=>False)(A:∀(w:World)(H:Hp)(s:Shared)(e:Value)(B:Shared),CX w [] H s (λ_ _ _=>False) e B->False):PySem.W.WalkO q i I C l.row.toRowW d [] (λf D=>PySem.call f D):=by show Att.zf hn y λw s₀ s₁ mg S p o pm cd M a D ns G Y U hd N t m j c hg=>?_;have E:=L w _ Y;obtain⟨fd,O,P⟩:=F w mg p _ E G.T.g t;show EC E G.T.g G.T.b G.T.builtins G.T.nolimit hg m j (lm c r) J P O (λH Q R=>z w H a ns c Q R) λH e B=>A w H s₁ e B
def CI{l:PySem.W.OpenLaw}{n k:Nat}{q:OK}{c:OL}{y:(Str->Option Value)->Heap->Prop}{p:World->Heap->Prop}{d:DefRec}{K:Params->OF}{CX:zi}{sp:OF->Sp}{x:Str}(hn:l.most=some n)(g:n<=sizeLine)(i:d.params.defaults=[])(z:eZ k callerA)(A:∀(w:World)(h:Heap),p w h->(K w.params).In h)(F:∀(w:World)(mg:OI)(r:Addr)(h:Heap),(K w.params).In h->h.Ns mainGlobals mg->mg d.name=some (.ref r)->∃fd:FuncData,(∀(s:Shared)(u:Value),BindsTo s fd {[u],[]} [(x,u)])/\∀base:Heap,(K w.params).In base->base.Ns mainGlobals mg->aT l.prog w (K w.params) mg base CX k r fd [x] (sp (K w.params)))(j:∀(K:OF)(H:Hp)(a:Addr)(ns:OQ),ns.length<=n->xD H->aW K H a (ns.map V.int)->sp K [.ref a] H (λv _=>v=.bl true) λ_ _ _=>False)(m:∀(H:Hp)(s:Shared)(e:Value)(o:Shared),CX [] H s (λ_ _ _=>False) e o->False):PySem.W.WalkO q c y p l.row.toRowW d [] (λf B=>PySem.call f B):=FF (K:=K) (CX:=λ_=>CX) (sp:=λw=>sp (K w.params)) hn g i z A F (λw H a ns h1 h2 h3=>j (K w.params) H a ns h1 h2 h3) λ_ H s e o=>m H s e o
def pY(s:Stmt):Arguments:=match s with|.FunctionDef _ a _ _ _ _ _ _ _ _=>a|_=>{posonlyargs:=[],args:=[],vararg:=none,kwonlyargs:=[],kw_defaults:=[],kwarg:=none,defaults:=[]}
def gJ(s:Stmt):List Stmt:=match s with|.FunctionDef _ _ b _ _ _ _ _ _ _=>b|_=>[]
def am(s:Stmt):Scope:=match s with|.FunctionDef _ _ _ _ _ _ a _ _ _=>a|_=>{kind:=.function,names:=[],isGenerator:=false,isCoroutine:=false}
abbrev d0:zi:=λ_ _ _ _ _ _=>False
abbrev E0:XK:=λ_ _ _=>False
def bj:mG d0 X E0:=λ_ _ _ _ _ _ _ h=>h.elim
structure xG(K:OF)(x qual:Str)(st:Stmt)(f:Addr)(fd:FuncData):Prop where
 ex:∃(oc:Value)(od:Option Addr)(kV doc pm:Value)(an:Option Addr)(cdv ct:Value)(osl:Array (Option Value)),fd=PySem.W.fnOf x qual (pY st) (gJ st) (am st) .none kV doc pm an cdv ct/\K.lookup f=some {oc,od,.func fd,osl}/\PySem.W.codeIn K cdv qual=true
 kp:PySem.W.keepIn K (.ref f)=true
section
variable{P:OK}{w:World}{K:OF}{mg:OI}{base:Heap}
def xG.ok{x a:Str}{st:Stmt}{f:Addr}{fd:FuncData}{N i:OL}{k:Nat}{sp:Sp}(F:xG K x a st f fd)(S:aB N i (am st))(len:∀e H Q E,sp e H Q E->e.length=i.length)(g:∀(c:Value)(A:Around)(outer:List Env)(s:Shared)(H:Hp)(e:List V)(Q:VK)(E:XK),eZ k (A.deeper (envOfC a (am st) s.heap.objs.size f c))->sp e H Q E->∃t,vi (qF d0 P w K mg base N a (am st) f c A outer s H E).nox (gJ st) t/\t {nx:=λ_ j=>Q .non j,rt:=Q} (iV N e) H):aT P w K mg base d0 (k+1) f fd i sp:=by obtain⟨oc,o,kV,l,pm,p,c,ct,m,rfl,lk,b⟩:=F.ex;show HW lk b S len λA outer s H e Q E n d=>?_;obtain⟨t,h,q⟩:=g c A outer s H e Q E n d;show(t,h.nox,q,)
def xG.binds{x a:Str}{st:Stmt}{f:Addr}{fd:FuncData}{g:OL}(F:xG K x a st f fd)(h:∀(kV c pm:Value)(i:Option Addr)(e ct:Value)(j:OJ),j.length=g.length->bindArgs (PySem.W.fnOf x a (pY st) (gJ st) (am st) .none kV c pm i e ct) {j,[]}=pure (g.zip j)):fZ K fd g []:=by obtain⟨oc,k,kV,c,pm,i,e,ct,b,rfl,lk,d⟩:=F.ex;show .all (h kV c pm i e ct)
def Aa{x a:Str}{st:Stmt}{f:Addr}{oc:Value}{j i:Option Addr}{h:Array (Option Value)}{kV g pm e ct:Value}(l:K.lookup f=some {oc,j,.func (PySem.W.fnOf x a (pY st) (gJ st) (am st) .none kV g pm i e ct),h})(c:PySem.W.codeIn K e a=true)(k:PySem.W.keepIn K (.ref f)=true):xG K x a st f (PySem.W.fnOf x a (pY st) (gJ st) (am st) .none kV g pm i e ct):={{oc,j,kV,g,pm,i,e,ct,h,(),l,c},k}
end
def bv(a:eZ k A):A.units+1<cLine:=si (Nat.add_le_add_left (by decide:1<=64) _) a.units
section
variable{X:Cx}
def Y(i:Nat)(c:X.N[i]?=some x:=by rfl)(e:LZ X.env.scope x:=by first|show Or.inl ()|show Or.inr (Or.inl ())|show Or.inr (Or.inr ()))(hd:(x==("__debug__":Str))=false:=by decide)(a:(x==("__classdict__":Str))=false:=by decide):PE X (.Name x f) (FI i):=Jh c e hd a
end
def bV{A B:Prop}(h:B):if false=true then A else B:=by rw[iA kw];show h
def bh{A B:Prop}(h:A):if true=true then A else B:=by rw[i_ ()];show h
def ao(H a:Hp):Prop:=∀b o,H b=some o->a b=some o
def ao.refl(H:Hp):ao H H:=λ_ _ h=>h
def ao.trans(a:ao H e)(b:ao e f):ao H f:=λc o h=>b c o (a c o h)
def ao.free(e:ao H a)(h:a l=Option.none):H l=Option.none:=by cases q:H l with|none=>rfl|some o=>rw[e l o q]at h;cases h
def ao.seq{K:OF}{H c:Hp}{a:Addr}{f:List V}(e:ao H c)(h:aW K H a f):aW K c a f:=by
 rcases h with(h|⟨o,h⟩)|h
 ·show .inl (.inl (e _ _ h))
 ·show .inl (.inr {o,e _ _ h})
 ·show .inr h
section
variable{a:Type}[DecidableEq a]
def vZ{p:a×V}{r:List (a×V)}{k:a}(e:p.1=k):dy (p::r) k=dy r k:=by unfold dy;rw[NO,iA (by simp[e])]
def v0{p:a×V}{r:List (a×V)}{k:a}(e:¬p.1=k):dy (p::r) k=p::dy r k:=by unfold dy;rw[NO,i_ (by simp[e])]
end
end L2
set_option maxHeartbeats 4000000
namespace L2
open PySem PySem.Spec PyProof.Rows
section
variable{prog:OK}{w:World}{A:Around}{R:Result->Shared->Prop}{s:Shared}
def kr(h:wpAny M A t Q (λ_ _=>False) s)(k:∀a s,Q a s->c a s):wpAny M A t c E s:=wpAny_mono h k λ_ _ z=>z.elim
def yX(J:Nat->Shared->Prop)(l:∀n s,J n s->wpAny (model prog w) A (pyNext z) (λr s₁=>match r with|none=>R (.ok .next) s₁|some v=>wpAny (model prog w) A (letOwnedTupleGo a z v) (λ_ d=>wpAny (model prog w) A (assign a env v) (λ_ e=>wpAny (model prog w) A (forIn k true λc r=>if r=true then do let ok<-isTrue c env (eval c env);pure (ForInStep.yield ok)else pure (ForInStep.yield r)) (λok b=>if ok=true then wpAny (model prog w) A (eval o env) (λx f=>wpAny (model prog w) A (call (.builtin "list.append") [p,x]) (λ_ g=>∃m,m<n/\J m g) (λ_ _=>False) f) (λ_ _=>False) b else∃m,m<n/\J m b) (λ_ _=>False) e) (λ_ _=>False) d) (λ_ _=>False) s₁) (λ_ _=>False) s)(n:Nat)(h:J n s):codeAny (model prog w) A (.compLoop (.ListComp o [{a,iter,k,0}] scope B) 0 z p env) R s:=by show codeAny_loop () J (λn s C=>?_) n h;change wpAny _ A ((compTurn (.ListComp o [{a,iter,k,0}] scope B) 0 z p env).onRaise (λx=>do noteFrame x env;theTreesLotGoes x)) _ _ s;show wpAny_noted ?_;rw[compTurn_list];show a_ (wpAny_standAt (a_ (kr (l n s C) (λr s₁ i=>?_))));cases r with|none=>show f_ i|some v=>show a_ (kr i λ_ d q=>a_ (kr q λ_ e t=>a_ (kr t λok b j=>?_)));cases ok with|false=>show f_ {(),j}|true=>show a_ (a_ (kr j λx f u=>a_ (kr u λ_ g y=>f_ (f_ {(),y}))))
end
theorem lu{f:Str->NameKind->NameKind}:∀(l:List (Str×NameKind))(x:Str),(l.map λp=>(p.1,f p.1 p.2)).lookup x=(l.lookup x).map (f x)|[],_=>()|(n,k)::r,x=>by rw[n_,NN,NN];cases a:x==n with
 |true=>
   have e:x=n:=by simpa using a
   subst e;rfl|false=>show lu r x
def mf(env:Env)(n:Str)(k:NameKind):NameKind:=if(k==.free&&env.scope.kind==.function&&env.kindOf n==some .cell)=true then .cell else k
def i6(scope:Scope)(env:Env)(x:Str):(relabel scope env).names.lookup x=(scope.names.lookup x).map (mf env x):=by
 rw[<-lu];unfold relabel
 congr 1
 change List.map _ scope.names=List.map _ scope.names
 congr 1
 funext p
 obtain⟨n,k⟩:=p;change(if(k==NameKind.free&&env.scope.kind==.function&&env.kindOf n==some .cell)=true then(n,NameKind.cell)else(n,k))=(n,mf env n k);unfold mf
 split<;>rfl
theorem oJ{env:Env}{f:Str×NameKind->List (Str×Addr)->Sem (ForInStep (List (Str×Addr)))}(g:∀n c r,cellOf env n=pure c->f (n,.free) r=pure (.yield ((n,c)::r)))(i:∀n k r,k≠.free->f (n,k) r=pure (.yield r)):∀(l:List (Str×NameKind))(cs:List (Str×Addr)),(∀y∈l,y.2=.free->∃c,env.cells.lookup y.1=some c)->∃cl:List (Str×Addr),forIn l cs f=pure cl/\(∀x c,cl.lookup x=some c->env.cells.lookup x=some c\/cs.lookup x=some c)/\(∀x,(∃c,cs.lookup x=some c)\/(x,NameKind.free)∈l->∃c,cl.lookup x=some c)
 |[],cs,_=>{cs,(),λ_ _ h=>.inr h,λx h=>h.elim id nofun}|(n,k)::r,cs,h=>by
  by_cases o:k=.free
  ·subst o;obtain⟨c,hc⟩:=h (n,.free) mo ();obtain⟨cl,h1,h2,h3⟩:=oJ g i r ((n,c)::cs) λy p=>h y (j_ _ p);show{cl,?_,λx d a=>?_,λx a=>h3 x ?_}
   ·rw[N2,g n c cs (by unfold cellOf;rw[hc])];show h1
   ·rcases h2 x d a with z|z
    ·show .inl z
    ·rw[NN]at z;cases b:x==n with|true=>
      rw[b]at z;have j:x=n:=by simpa using b
      have m:c=d:=by simpa using z
      subst j;subst m;show .inl hc|false=>rw[b]at z;show .inr z
   ·rcases a with⟨d,a⟩|a
    ·show .inl ?_;rw[NN];cases b:x==n with|true=>show{c,()}|false=>show(d,a,)
    ·rcases so.mp a with e|e
     ·injection e with j m;subst j;show .inl {c,by simp}
     ·show .inr e
  ·obtain⟨cl,h1,h2,h3⟩:=oJ g i r cs λy p=>h y (j_ _ p);show{cl,?_,h2,λx a=>h3 x ?_}
   ·rw[N2,i n k cs o];show h1
   ·rcases a with a|a
    ·show .inl a
    ·rcases so.mp a with e|e
     ·injection e with j m;show absurd m.symm o
     ·show .inr e
def vc{env:Env}{scope:Scope}(h:∀y∈scope.names,y.2=.free->∃c,env.cells.lookup y.1=some c):∃cl:List (Str×Addr),closureFor scope env=pure cl/\(∀x c,cl.lookup x=some c->env.cells.lookup x=some c)/\(∀x,(x,NameKind.free)∈scope.names->∃c,cl.lookup x=some c):=by
 simp only[closureFor];obtain⟨cl,h1,h2,h3⟩:=oJ (env:=env) (f:=λ(x:Str×NameKind)(r:List (Str×Addr))=>match x with|(b,kind)=>if(kind==NameKind.free)=true then(do let a<-cellOf env b;pure (ForInStep.yield ((b,a)::r)))else pure (ForInStep.yield r)) (λn c r e=>by change(if(NameKind.free==NameKind.free)=true then(do let a<-cellOf env n;pure (ForInStep.yield ((n,a)::r)))else pure (ForInStep.yield r):Sem _)=_;rw[i_ (by decide),e];rfl) (λn k r e=>by change(if(k==NameKind.free)=true then(do let a<-cellOf env n;pure (ForInStep.yield ((n,a)::r)))else pure (ForInStep.yield r):Sem _)=_;rw[iA (by simpa using e)]) scope.names [] h
 show{cl,?_,λx c e=>(h2 x c e).elim id λz=>by simp at z,λx d=>h3 x (.inr d)};rw[h1];rfl
noncomputable def Cx.comp(X:Cx)(scope:Scope)(a:OL)(cl:List (Str×Addr))(C:Addr)(s₀:Shared)(H₀:Hp)(ex:OP):Cx:={prog:=X.prog,w:=X.w,K:=X.K,mg:=X.mg,base:=X.base,A:=X.A,N:=a,s₀:=s₀,H₀:=H₀,env:=compEnvC scope cl C X.env,outer:=X.stack,stack:=X.stack,ex:=ex,fn:=λ_=>false,calm:=X.calm,pn:=X.pn,xe:=λ_ _=>False}
def iE(ds:OO)(k:Nat)(a:St):St:=ds.foldl (λa i=>a.set i none) a++List.replicate k none
def oI(ds:OO):∀a:St,(ds.foldl (λa i=>a.set i none) a).length=a.length:=by induction ds with|nil=>intro a;rfl|cons d r b=>intro a;rw[Es,b];simp
def Ac(ds:OO):∀(a:St)(i:Nat)(v:V),(ds.foldl (λa i=>a.set i none) a)[i]?=some (some v)->a[i]?=some (some v)/\i∉ds:=by induction ds with|nil=>intro a i v h;show{h,by simp}|cons d r b=>
  intro a i v h;rw[Es]at h;obtain⟨h1,h2⟩:=b _ i v h
  by_cases e:d=i
  ·subst e
   by_cases c:d<a.length
   ·rw[w_ c]at h1;cases h1
   ·rw[MZ.mpr (by rw[D_];lia)]at h1;cases h1
  ·rw[oD e]at h1;show{h1,λz=>(so.mp z).elim (λq=>e q.symm) h2}
def yN(h:(iE ds k a)[i]?=some (some v)):a[i]?=some (some v)/\i∉ds/\i<a.length:=by
 unfold iE at h
 by_cases b:i<a.length
 ·rw[t6 (by rw[oI];show b)]at h;obtain⟨h1,h2⟩:=Ac ds a i v h;show(h1,h2,b,)
 ·rw[G_ (by rw[oI];lia)]at h;have:=d_.mp h;obtain⟨h1,h2⟩:=this;rw[List.getElem_replicate]at h2;cases h2
def Hz(X:Cx)(e:OM)(t:TT):Prop:=∀(a:OH)(s:Shared)(b:St)(H:Hp)(Q:Bool->Hp->Prop),aN X a b H s->t b H Q->wpAny (model X.prog X.w) X.A (forIn e true λc r=>if r=true then do let ok<-isTrue c X.env (eval c X.env);pure (ForInStep.yield ok)else pure (ForInStep.yield r)) (TP X a b Q) X.xe s
def Ky:TT:=λ_ H Q=>Q true H
def bR:Hz X [] Ky:=λ_ _ _ H _ I h=>wpAny_tests_nil (H,I,h,)
def pD(h:PT X c t):Hz X [c] t:=λa s b H Q I q=>wpAny_tests_one (h a s b H Q I q)
def GK(g:TG)(c:OO):Prop:=∀x b H Q,g x b H Q->g x b H λa d=>Q a d/\a.length=b.length/\∀i,i∉c->a[i]?=b[i]?
def bW(j:Nat):GK (io j) [j]:=λx a H Q h=>by show{h,by simp,λi hi=>?_};rw[oD (λe=>hi (by simp[e]))]
def xf(K:OF)(i j:Nat):GK (Hc K 2 (vW (io i) (vW (io j) JU))) [i,j]:=λx l H Q h=>by obtain⟨a,b,e,c,d,v,r,f,u,r2,g,k,q⟩:=h;show{a,b,e,c,d,v,r,f,u,r2,g,k,q,by simp,λn hn=>?_};have h1:n≠i:=λz=>hn (by simp[z]);have h2:n≠j:=λz=>hn (by simp[z]);rw[oD (o8 h2),oD (o8 h1)]
def sP(o:TI)(g:TG)(ds:OO)(k:Nat)(tc:TT)(te:TE):TE:=λf H Q=>o f H λJ h=>∀D,h D=none->∃W:Nat->Nat->List V->Hp->Prop,(∃m,W 0 m [] (aH h D (.lst [])))/\∀i m a c,W i m a c->(J.stop i c/\Q (.ref D) c)\/(J.go i c/\∀x j,J.yld i c x j->g x (iE ds k f) j λd p=>tc d p λb l=>if b=true then te d l λy n=>n D=some (.lst a)/\a.length<sizeLine/\∃e,e<m/\W (i+1) e (a++[y]) (aH n D (.lst (a++[y])))else∃e,e<m/\W (i+1) e a l)
section
variable{X:Cx}
def Fg(I:aN X A σ H s)(f:∀b∈fp,vk X A H b)(fo:∀b∈fp,∃o,s.heap.get? b=some o)(E:scope.kind=.function)(F:∀y∈scope.names,y.2≠.cell)(G:∀y∈scope.names,y.2=.free->X.env.scope.names.lookup y.1=some .cell\/X.env.scope.names.lookup y.1=some .free)(g:∀x c,cl.lookup x=some c->X.env.cells.lookup x=some c)(D:∀x,(x,NameKind.free)∈scope.names->∃c,cl.lookup x=some c)(hN:W=X.N++L)(hk:L.length=k)(M:∀i x,X.N[i]?=some x->scope.names.lookup x=some .local->i∈ds)(P:s.heap.objs.size<C)(keep:∀b o,s.heap.get? b=some o->j.get? b=some o)(Z:j.Ns C m)(hD:j.get? s.heap.objs.size=some {cls:=.type "list",data:=.seq ([]:OJ).toArray 0}):aN (X.comp scope W cl C s H fp) A (iE ds k σ) (aH H s.heap.objs.size (.lst [])) {s with heap:=j,toks:=tk}:=by
 have fresh:H s.heap.objs.size=none:=I.hok.fresh (e_ _);have O:lG X.prog X.w (aH H s.heap.objs.size (.lst [])) j:=I.hok.laid keep (e_ _) {np _,[],0,.nil,hD};have J:∀b∈fp,b<s.heap.objs.size:=λb t=>let⟨_,e⟩:=fo b t;j2 e;have K:∀b,b∈jU X.stack->∀p∈X.pn++A,p.1≠b:=λb t p T e=>by
  obtain⟨_,_,n1,n2,_⟩:=I.pin p T;rcases so.mp (I.stkSub b t)with z|z
  ·show n1 (e.trans z)
  ·show n2 (e▸z)
 have B:∀x c,cl.lookup x=some c->c<s.heap.objs.size:=λx c e=>by obtain⟨v,z⟩:=I.cell x c (g x c e);show z.lt
 have a:∀x,(relabel scope X.env).names.lookup x=some .cell\/(relabel scope X.env).names.lookup x=some .free->scope.names.lookup x=some .free:=λx h=>by rw[i6]at h;cases e:scope.names.lookup x with|none=>rw[e]at h;simp at h|some q=>
   rw[e]at h;have hm:=mem_of_lookup e;have nc:q≠.cell:=F _ hm;simp only[M3,Ny]at h;unfold mf at h
   split at h
   ·rename_i hc;have:(q==NameKind.free)=true:=by cases hq:q==NameKind.free with|true=>rfl|false=>rw[hq]at hc;simp at hc
    have:q=.free:=by simpa using this
    rw[this]
   ·rcases h with h|h
    ·show absurd h nc
    ·rw[h]
 show{{I.ok.mod,?_,I.ok.glob,I.ok.blt,z4 P,?_,?_,?_,I.ok.hd,I.ok.frames,.inl (),?_,I.bs,lm I.ok.bsz I.sz,?_,?_,I.stack,I.stkFree},(),I.bare,Un.laid keep (e_ _) fresh,{m,Z,?_},?_,?_,?_,?_,O,?_}
 ·show E
 ·intro x y c Y hy;show I.ok.inj x y c (g x c Y) (g y c hy)
 ·intro x Y;show D x (mem_of_lookup (a x Y))
 ·intro x c hf;show absurd hf (by simp[Cx.comp])
 ·intro b t;show{m3 (H_ (J b t) P),λx c e z=>?_};show(f b t).2.2.2.2.1 x c (g x c e) z
 ·intro b o e t;rcases(f b t).2.2.2.1 with z|z
  ·show I.ok.noex b o e z
  ·show absurd (n7 (j2 e) (lm I.ok.bsz z)) (rV _)
 ·intro b t hs;rcases so.mp (I.stkSub b hs)with z|z
  ·show(f b t).2.1 z
  ·show(f b t).2.2.1 z
 ·intro i x v U e2 vis;obtain⟨g1,g2,g3⟩:=yN e2;have Q:X.N[i]?=some x:=by have U:W[i]?=some x:=U;rw[hN,t6 (by rw[<-I.len];show g3)]at U;show U
  have hv:scope.names.lookup x=some .free:=by
   rcases vis with z|z|z
   ·exfalso;have z:(relabel scope X.env).names.lookup x=some .local:=z;rw[i6]at z;cases e:scope.names.lookup x with|none=>rw[e]at z;simp at z|some q=>
     rw[e]at z;simp only[M3,Ny]at z;unfold mf at z
     split at z
     ·cases z
     ·subst z;show g2 (M i x Q e)
   ·show a x (.inl z)
   ·show a x (.inr z)
  have hm:=mem_of_lookup hv;have hX:=G _ hm ();obtain⟨mX,_,hl⟩:=I.loc;have R:LZ X.env.scope x:=by
   rcases hX with z|z
   ·show .inr (.inl z)
   ·show .inr (.inr z)
  obtain⟨u,r,l⟩:=hl i x v Q g1 R;show{u,r,.inr {?_,?_}}
  ·change(relabel scope X.env).names.lookup x=some .cell\/(relabel scope X.env).names.lookup x=some .free;rw[i6,hv];change some (mf X.env x .free)=some .cell\/some (mf X.env x .free)=some .free;unfold mf
   split
   ·show .inl ()
   ·show .inr ()
  ·obtain⟨c,hc⟩:=D x hm;have aa:=g x c hc;show{c,hc,?_};rcases l with⟨V,_⟩|⟨_,c',S,o,ho,hd⟩
   ·exfalso;have V:X.env.scope.names.lookup x=some .local:=V;rcases hX with z|z
    ·rw[V]at z;cases z
    ·rw[V]at z;cases z
   ·rw[aa]at S;cases S;show{o,keep c o ho,hd}
 ·intro x c e;obtain⟨v,o,ho,hd⟩:=I.cell x c (g x c e);show{v,o,keep c o ho,hd}
 ·change aH H s.heap.objs.size (.lst []) C=none;rw[aq (op P)];show I.hok.fresh (z4 P)
 ·intro x c e;rw[aq (m3 (B x c e))];show I.freeC x c (g x c e)
 ·intro p T;obtain⟨e,n,n1,n2,d⟩:=I.pin p T;have lt:=j2 e;show{keep _ _ e,?_,m3 (H_ lt P),λz=>K p.1 z p T (),d};rw[aq (m3 lt)];show n
 ·change(iE ds k σ).length=W.length;unfold iE;rw[j1,oI,I.len,hN,j1,MN,hk]
def Ff(I:aN X a m H s)(f:∀b∈fp,vk X a H b)(g:aN (X.comp scope x cl C s H fp) a p i j)(r:s.heap.objs.size<C)(l:Heap.SameBut C j.heap h'):aN X a m i {j with heap:=h'}:=by
 have u:=g.base;have d:i C=none:=g.free;have ne:∀b o,s.heap.get? b=some o->b≠C:=λb o e=>m3 (H_ (j2 e) r);have t:Un (jU X.stack) fp H i s.heap h':=by
  show{λb o e n h1 h2=>?_,λb o e n h1 h2=>?_,u.free,λb o e h2=>?_,u.tups,u.frzs,u.tbls}
  ·show(l.2 b (ne b o e)).trans (u.keep b o e n h1 h2)
  ·obtain⟨sl,q⟩:=u.slot b o e n h1 h2;show{sl,(l.2 b (ne b o e)).trans q}
  ·obtain⟨v,q⟩:=u.there b o e h2;show{v,(l.2 b (ne b o e)).trans q}
 have h:lG X.prog X.w i h':=λb ob e=>by
  show(g.hok b ob e).stay (λc y hc q=>(l.2 c ?_).trans q) (λ_ q=>q) λ_ _ q=>q;rintro rfl;rcases hc with rfl|hc
  ·rw[d]at e;cases e
  ·rw[d]at hc;cases hc
 show I.call' (s':={j with heap:=h'}) g.os t h g.bare λb k=>{(f b k).2.2.2.1,(f b k).2.1,(f b k).2.2.2.2.1,(f b k).2.2.2.2.2}
def aN.block_gone(I:aN X a f H s)(hn:H C=none)(g:C≠X.env.locals)(h1:X.s₀.heap.objs.size<=C)(h2:∀x c,X.env.cells.lookup x=some c->c≠C)(h3:∀p∈X.pn++a,p.1≠C)(h:Heap.SameBut C s.heap h'):aN X a f H {s with heap:=h'}:=I.turned (t':=s.toks) (λb o d e=>(h.2 b d).trans e) hn g (.inr h1) h2 h3
def wc(N':OL)(ds:OO)(k:Nat){a:OH}{s:Shared}{P:St}{H:Hp}{Q:VK}{use:Option (Value->Sem Unit)}{QV:OG}(hc:X.calm=true)(hi:PI X tg iter wi)(F:∀cl C s₀ H₀ ex,PG (X.comp scope N' cl C s₀ H₀ ex) tg g/\Hz (X.comp scope N' cl C s₀ H₀ ex) R tc/\PE (X.comp scope N' cl C s₀ H₀ ex) a6 te)(hg:GK g js)(hj:∀P:St,P.length=X.N.length->∀j∈js,∀v,(iE ds k P)[j]?≠some (some v))(G:scope.kind=.function)(S:∀y∈scope.names,y.2≠.cell)(aa:∀y∈scope.names,y.2=.local->scope.names.lookup y.1=some .local)(Z:∀y∈scope.names,y.2=.free->X.env.scope.names.lookup y.1=some .cell\/X.env.scope.names.lookup y.1=some .free)(hN:N'=X.N++a7)(hk:a7.length=k)(a8:∀i x,X.N[i]?=some x->scope.names.lookup x=some .local->i∈ds)(hs:∀x,foldedSetIterable iter X.env x=pure x)(I:aN X a P H s)(h:sP wi g ds k tc te P H Q)(fin:∀(D C:Addr)(H':Hp)(s':Shared)(m:OI),aN X a P H' s'->Q (.ref D) H'->s'.heap.Ns C m->H' C=none->C≠X.env.locals->X.s₀.heap.objs.size<=C->(∀x c,X.env.cells.lookup x=some c->c≠C)->(∀p∈X.pn++a,p.1≠C)->compPost (model X.prog X.w) X.A X.xe use QV (.ref D) C (.ok .next) s'):wpAny (model X.prog X.w) X.A (comprehension (.ListComp a6 [{tg,iter,R,0}] scope bb) scope X.env (firstIterPos [{tg,iter,R,0}] bb) (newList []) (firstAsync [{tg,iter,R,0}]) (firstIter [{tg,iter,R,0}] X.env) use) QV X.xe s:=by
 have V:∀y∈scope.names,y.2=.free->∃c,X.env.cells.lookup y.1=some c:=λy hy e=>I.ok.has y.1 (Z y hy e);obtain⟨cl,an,bc,bi⟩:=vc V;show wpAny_comprehension_free (use:=use) () hs an G aa (cw (hi a s P H _ I h) λv s1 h1=>cw h1 λda l h2=>?_);obtain⟨it,fp,tn,J,H2,e,Y,T,bl,f2,q⟩:=h2;subst e;have dc:=Y;obtain⟨W,⟨m0,w0⟩,bt⟩:=q l.heap.objs.size (Y.hok.fresh (e_ _));show rb (wpAny_newFunctionEnv S (by intro y hy;simp at hy) (λB t hsb₁=>?_) G);dsimp only at t hsb₁⊢;generalize as:l.heap.push {cls:=.type "list",dict:=none,data:=.seq ([]:OJ).toArray}=G2 at t hsb₁⊢;have hC:l.heap.objs.size<G2.objs.size:=by rw[<-as,p_];show wh _
 have keep:∀b o,l.heap.get? b=some o->B.get? b=some o:=λb o e=>hsb₁.extBut b o (m3 (H_ (j2 e) hC)) (c_ _ (as▸c_ _ e))
 have hD:B.get? l.heap.objs.size=some {cls:=.type "list",data:=.seq ([]:OJ).toArray 0}:=hsb₁.extBut _ _ (m3 hC) (c_ _ (as▸h_ _ ()));have fo:∀b∈fp,∃o,l.heap.get? b=some o:=λb F=>let⟨o,e,_⟩:=T.obj _ _ bl b F;(o,e,);obtain⟨bz,bQ,b0⟩:=F cl G2.objs.size l H2 fp;generalize f:X.comp scope N' cl G2.objs.size l H2 fp=L at bz bQ b0;have xp:L.prog=X.prog:=by rw[<-f];rfl
 have xw:L.w=X.w:=by rw[<-f];rfl
 have xK:L.K=X.K:=by rw[<-f];rfl
 have xA:L.A=X.A:=by rw[<-f];rfl
 have xe:L.xe=λ_ _=>False:=by rw[<-f];rfl
 have E:L.env=compEnvC scope cl G2.objs.size X.env:=by rw[<-f];rfl
 have b8:L.calm=true:=by rw[<-f];show hc
 have iV:aN L a (iE ds k P) (aH H2 l.heap.objs.size (.lst [])) {l with heap:=B,toks:=l.toks+([]:List (Str×Value)).length}:=by rw[<-f];show Fg Y f2 fo G S Z bc bi hN hk a8 hC keep t hD
 have b9:tn 0 B:=T.keep _ _ _ bl λb _ o e=>keep b o e;have c0:∀b∈fp,aH H2 l.heap.objs.size (.lst []) b=none:=λb F=>by obtain⟨o,e⟩:=fo b F;rw[aq (m3 (j2 e))];show(f2 b F).1
 have U:∀{H':Hp},(∀b∈fp,H' b=none)->∀b∈fp,vk L a H' b:=λhn b F=>by
  obtain⟨f0,f1,f3,f4,f5,f6⟩:=f2 b F;obtain⟨o,e⟩:=fo b F;show{hn b F,?_,?_,?_,?_,?_}
  ·rw[E];show m3 (H_ (j2 e) hC)
  ·intro z;have z:b∈jU X.stack:=by rw[<-f]at z;show z
   rcases so.mp (Y.stkSub b z)with y|y
   ·show f1 y
   ·show f3 y
  ·rw[<-f];show .inl F
  ·intro x c ec;rw[E]at ec;show f5 x c (bc x c ec)
  ·intro p hp;rw[<-f]at hp;show f6 p hp
 have al:codeAny (model X.prog X.w) X.A (.compLoop (.ListComp a6 [{tg,iter,R,0}] scope bb) 0 (.ref it) (.ref l.heap.objs.size) (compEnvC scope cl G2.objs.size X.env)) (compPost (model X.prog X.w) X.A X.xe use QV (.ref l.heap.objs.size) G2.objs.size) {l with heap:=B,toks:=l.toks+([]:List (Str×Value)).length}:=by
  show yX (λn s'=>∃i M H',aN L a (iE ds k P) H' s'/\tn i s'.heap/\(∀b∈fp,H' b=none)/\W i n M H') ?_ m0 {0,[],_,iV,b9,c0,w0};rintro n s3⟨i,M,H3,I3,cc,ci,w3⟩;rcases bt i n M H3 w3 with⟨stop,qn⟩|⟨go,step⟩
  ·have td:=T.done L xp xw xK b8 i a s3 _ H3 (λ_ _=>False) I3 (U ci) cc stop;rw[xA]at td;show cw td λr s4 O=>?_;obtain⟨hr,I4⟩:=O;subst hr;have ac:=I4;rw[<-f]at ac;obtain⟨m',c1,_⟩:=ac.loc;show fin l.heap.objs.size G2.objs.size H3 s4 m' (Ff (h':=s4.heap) Y f2 ac hC (.refl ..)) qn c1 ac.free (op (H_ Y.lt hC)) (z4 (si Y.sz hC)) (λx c e z=>?_) λp hp z=>?_
   ·obtain⟨v,q⟩:=Y.cell x c e;show absurd (H_ q.lt hC) (by rw[z];show rV _)
   ·show absurd (H_ (j2 (Y.pin p hp).1) hC) (by rw[z];show rV _)
  ·have ti:=T.item L xp xw xK b8 i a s3 _ H3 (λ_ _=>False) I3 (U ci) cc go;rw[xA]at ti;show cw ti λr s4 O=>?_;obtain⟨u,hr,h4⟩:=O;subst hr;show cw h4 λ_ s5 O=>?_;obtain⟨x,H5,I5,r5,y5,ax,c2⟩:=O;have c3:=I5.pinned (U c2) (T.obj _ _ ax);have pg:=bz _ s5 _ H5 x u _ c3 r5 (hg x _ H5 _ (step x H5 y5));rw[xp,xw,xA,E,xe]at pg;show cw pg λ_ s6 O=>?_;obtain⟨ad,H6,I6,⟨q6,cK,a5⟩⟩:=O;have again:∀{H7:Hp}{s7:Shared},aN L (a++tU fp s5.heap) ad H7 s7->aN L a (iE ds k P) H7 s7/\tn (i+1) s7.heap/\∀b∈fp,H7 b=none:=λ{H7 s7}I7=>by
    show{I7.unpinned.weak cK.symm λj v e=>?_,T.keep _ _ _ ax λb F o e=>(I7.pin (b,o) (ot _ (ot _ (kT F e)))).1,λb F=>?_}
    ·rw[a5 j λz=>hj P I.len j z v e];show e
    ·obtain⟨o,e,d⟩:=T.obj _ _ ax b F;show(I7.pin (b,o) (ot _ (ot _ (kT F e)))).2.1
   have pt:=bQ _ s6 ad H6 _ I6 q6;rw[xp,xw,xA,E,xe]at pt;show cw pt λok s7 O=>?_;obtain⟨H7,I7,q7⟩:=O;cases ok with|false=>obtain⟨m',hm,w7⟩:=q7;obtain⟨a1,a2,a3⟩:=again I7;show{m',hm,i+1,M,H7,a1,a2,a3,w7}|true=>have pe:=b0 _ s7 ad H7 _ I7 q7;rw[xp,xw,xA,E,xe]at pe;show cw pe λyv s8 O=>?_;obtain⟨y,H8,I8,r8,c4,cS,m',hm,w8⟩:=O;have ap:=fC (X:=L) _ s8 ad H8 (.ref l.heap.objs.size) [y] _ [yv] (λv H9=>H9=aH H8 l.heap.objs.size (.lst (M++[y]))) I8 () (.cons r8 .nil) {_,M,y,(),(),c4,cS,()};rw[xp,xw,xA,xe]at ap;show cw ap λ_ s9 O=>?_;obtain⟨_,H9,I9,_,e9⟩:=O;subst e9;obtain⟨a1,a2,a3⟩:=again I9;show{m',hm,i+1,M++[y],_,a1,a2,a3,w8}
 show codeAny_compStart_list al (T.self _ 0 _ _ _ b9 al)
def GD(l:OL)(ds:OO)(k:Nat)(hc:X.calm=true)(hi:PI X w iter z)(A:∀cl C s₀ H₀ ex,PG (X.comp scope l cl C s₀ H₀ ex) w g/\Hz (X.comp scope l cl C s₀ H₀ ex) p tc/\PE (X.comp scope l cl C s₀ H₀ ex) r te)(hg:GK g B)(E:∀u:St,u.length=X.N.length->∀j∈B,∀v,(iE ds k u)[j]?≠some (some v))(c:scope.kind=.function)(e:∀y∈scope.names,y.2≠.cell)(a:∀y∈scope.names,y.2=.local->scope.names.lookup y.1=some .local)(f:∀y∈scope.names,y.2=.free->X.env.scope.names.lookup y.1=some .cell\/X.env.scope.names.lookup y.1=some .free)(F:l=X.N++n)(G:n.length=k)(o:∀i x,X.N[i]?=some x->scope.names.lookup x=some .local->i∈ds)(J:∀x,foldedSetIterable iter X.env x=pure x:=by intro _;rfl):PE X (.ListComp r [{w,iter,p,0}] scope L) (sP z g ds k tc te):=by intro b s u H Q I h;rw[eval_ListComp];show wc l ds k hc hi A hg E c e a f F G o J I h λD C d O m t q hn n1 n2 n3 n4 K=>?_;show{m,hn,λh' M=>{.ref D,d,t.block_gone n1 n2 n3 n4 K M,(),q}}
def Gr(u:OL)(ds:OO)(k:Nat)(J:X.N.Nodup)(L:X.N[i]?=some x)(Q:Ki X.env.scope x)(R:X.fn x=true\/X.env.scope.names.lookup x=some .local)(M:swapsWith (.ListComp l [{G,iter,n,0}] scope w) (some (.Name x c)) B.line X.env=pure true)(hc:X.calm=true)(hi:PI X G iter S)(T:∀cl C s₀ H₀ ex,PG (X.comp scope u cl C s₀ H₀ ex) G g/\Hz (X.comp scope u cl C s₀ H₀ ex) n tc/\PE (X.comp scope u cl C s₀ H₀ ex) l te)(hg:GK g W)(Z:∀P:St,P.length=X.N.length->∀j∈W,∀v,(iE ds k P)[j]?≠some (some v))(o:scope.kind=.function)(p:∀y∈scope.names,y.2≠.cell)(f:∀y∈scope.names,y.2=.local->scope.names.lookup y.1=some .local)(r:∀y∈scope.names,y.2=.free->X.env.scope.names.lookup y.1=some .cell\/X.env.scope.names.lookup y.1=some .free)(hN:u=X.N++E)(hk:E.length=k)(F:∀i x,X.N[i]?=some x->scope.names.lookup x=some .local->i∈ds)(hs:∀x,foldedSetIterable iter X.env x=pure x:=by intro _;rfl):PS X (.Assign [.Name x c] (.ListComp l [{G,iter,n,0}] scope w) B) (wB (sP S g ds k tc te) (io i)):=by
 intro b s P H D I h;rw[exec_Assign_Name_used _ _ _ _ M];show a_ (wpAny_standAt (a_ ?_));change wpAny _ X.A (do let _<-comprehension (.ListComp l [⟨G,iter,n,0⟩] scope w) scope X.env _ (newList []) false (eval iter X.env) (some (assign (.Name x c) X.env))) _ _ s;show a_ (wpAny_mono (wc (QV:=λ_ d=>SP X b D .next d) (use:=some (assign (.Name x c) X.env)) u ds k hc hi T hg Z o p f r hN hk F hs I h λDa C V d m Y q hn n1 n2 n3 n4 n5=>?_) (λ_ d hq=>f_ (f_ hq)) λ_ _ e=>e)
 change wpAny _ X.A (assign (.Name x c) X.env (.ref Da)) _ _ _;show wpAny_assign_Name (vx Y J L Q (v:=.ref Da) () (λaa t⟨a,sb,ha⟩=>?_) R);have K:C≠a:=by
  rcases ha with z|z
  ·rw[z];show n2
  ·showλe=>n4 x a z e.symm
 show{m,hn.sameBut sb K,λh' O=>{_,V,t.block_gone n1 n2 n3 n4 n5 O,q}}
def qG(N0:OL)(ds:OO)(a scope:Scope):Bool:=scope.kind==.function&&scope.names.all (λy=>!(y.2==.cell)&&(!(y.2==.local)||scope.names.lookup y.1==some .local)&&(!(y.2==.free)||(a.names.lookup y.1==some .cell||a.names.lookup y.1==some .free)))&&N0.zipIdx.all λp=>!(scope.names.lookup p.1==some .local)||ds.contains p.2
def ur{N0:OL}{ds g:OO}{a scope:Scope}{k:Nat}(ok:qG N0 ds a scope=true)(c:(g.all λj=>ds.contains j||decide (N0.length<=j))=true):(∀f:St,f.length=N0.length->∀j∈g,∀v,(iE ds k f)[j]?≠some (some v))/\scope.kind=.function/\(∀y∈scope.names,y.2≠.cell)/\(∀y∈scope.names,y.2=.local->scope.names.lookup y.1=some .local)/\(∀y∈scope.names,y.2=.free->a.names.lookup y.1=some .cell\/a.names.lookup y.1=some .free)/\(∀i x,N0[i]?=some x->scope.names.lookup x=some .local->i∈ds):=by
 unfold qG at ok;rw[nk,nk]at ok;obtain⟨⟨h1,h2⟩,h3⟩:=ok;have h2:=Ng.mp h2;have h3:=Ng.mp h3;have c:=Ng.mp c;show{?_,(by simpa using h1),?_,?_,?_,?_}
 ·intro f m j hm v e;obtain⟨_,d,n⟩:=yN e;have:=c j hm;rw[Bool.or_eq_true]at this;rcases this with z|z
  ·show d (by simpa using z)
  ·have:=l_ z;lia
 ·intro y b e;have:=h2 y b;rw[nk,nk]at this;have z:=this.1.1;rw[e]at z;show absurd z (by decide)
 ·intro y b e;have:=h2 y b;rw[nk,nk]at this;have z:=this.1.2;rw[e]at z;simpa using z
 ·intro y b e;have:=h2 y b;rw[nk,nk]at this;have z:=this.2;rw[e]at z;simpa using z
 ·intro i x h l;have:=h3 (x,i) (by rw[List.mem_zipIdx_iff_getElem?];show h);rw[Bool.or_eq_true]at this;rcases this with z|z
  ·rw[l]at z;show absurd z (by decide)
  ·simpa using z
def Hj(N0 a:OL)(ds n:OO)(c:Scope){e h iter:Expr}{f:OM}{scope:Scope}{i:Pos}{o:TI}{g:TG}{tc:TT}{te:TE}(hc:X.calm=true)(l:X.N=N0)(m:X.env.scope=c)(ok:qG N0 ds c scope=true)(p:(n.all λj=>ds.contains j||decide (N0.length<=j))=true)(hg:GK g n)(hi:PI X h iter o)(q:∀cl C s₀ H₀ ex,PG (X.comp scope (N0++a) cl C s₀ H₀ ex) h g/\Hz (X.comp scope (N0++a) cl C s₀ H₀ ex) f tc/\PE (X.comp scope (N0++a) cl C s₀ H₀ ex) e te)(r:∀x,foldedSetIterable iter X.env x=pure x:=by intro _;rfl):PE X (.ListComp e [{h,iter,f,0}] scope i) (sP o g ds a.length tc te):=by subst l;subst m;obtain⟨h1,h2,h3,h4,b,d⟩:=ur ok p;show GD (X.N++a) ds a.length hc hi q hg h1 h2 h3 h4 b () () d r
def Fe(N0 a:OL)(ds u:OO)(f:Scope){i:Nat}{x:Str}{c e:Pos}{h n iter:Expr}{l:OM}{scope:Scope}{m:Pos}{v:TI}{g:TG}{tc:TT}{te:TE}(hc:X.calm=true)(o:X.N=N0)(p:X.env.scope=f)(ok:qG N0 ds f scope=true)(y:(u.all λj=>ds.contains j||decide (N0.length<=j))=true)(hg:GK g u)(hi:PI X n iter v)(z:∀cl C s₀ H₀ ex,PG (X.comp scope (N0++a) cl C s₀ H₀ ex) n g/\Hz (X.comp scope (N0++a) cl C s₀ H₀ ex) l tc/\PE (X.comp scope (N0++a) cl C s₀ H₀ ex) h te)(q:N0.Nodup)(r:N0[i]?=some x:=by rfl)(w:f.names.lookup x=some .local:=by rfl)(s:swapsWith (.ListComp h [{n,iter,l,0}] scope m) (some (.Name x c)) e.line X.env=pure true:=by rfl)(A:∀x,foldedSetIterable iter X.env x=pure x:=by intro _;rfl):PS X (.Assign [.Name x c] (.ListComp h [{n,iter,l,0}] scope m) e) (wB (sP v g ds a.length tc te) (io i)):=by subst o;subst p;obtain⟨h1,h2,h3,h4,b,d⟩:=ur ok y;show Gr (X.N++a) ds a.length q r (.inl w) (.inr w) s hc hi z hg h1 h2 h3 h4 b () () d A
def y8:dG X (.builtin "isinstance") (λa H Q=>∃x T t b,a=[x,.ty T]/\kJ X.K H x t/\PySem.W.kitOne X.K t (.type T)=some b/\Q (.bl b) H):=by intro c s g H a i Q I r h;obtain⟨x,T,t,b,rfl,ty,e,q⟩:=h;obtain⟨u,d,rfl,f,rt⟩:=vo r;obtain rfl:d=Value.type T:=rt;show Cd I f ty e λtk=>{.bl b,H,I.tok tk,(),q}
def wg{bs:List Bool}{a:OJ}(r:be (bs.map V.bl) a){i:Nat}{v:Value}(h:a[i]?=some v):∃b,bs[i]?=some b/\v=.bool b:=by
 have d:=r.length;rw[b_]at d;have hi:i<a.length:=(d_.mp h).1;have c:bs[i]?=some bs[i]:=by simp
 obtain⟨u,h1,h2⟩:=r.get (i:=i) (x:=.bl bs[i]) (by rw[ig,c];rfl);rw[h]at h1;cases h1;show(bs[i],c,h2,)
def BP{bs:List Bool}:((List.range bs.length).all λi=>bs.getD i true)=bs.all id:=by induction bs with|nil=>rfl|cons b r a=>
  rw[oi,List.range_succ_eq_map,Ni,List.all_map,Ni]
  congr 1
def BO{bs:List Bool}:((List.range bs.length).any λi=>bs.getD i true)=bs.any id:=by induction bs with|nil=>rfl|cons b r a=>
  rw[oi,List.range_succ_eq_map,z7,List.any_map,z7]
  congr 1
def EJ{A:Around}(h:A.handled=none):A.in1.handled=none:=h
def Cy(hc:X.calm=true):dG X (.builtin "all") (λg H Q=>∃(p:Addr)(bs:List Bool),g=[.ref p]/\aW X.K H p (bs.map V.bl)/\Q (.bl (bs.all id)) H):=by
 intro j s A H g B Q I r h;obtain⟨p,bs,rfl,m,q⟩:=h;obtain⟨u,rfl,t⟩:=k9 r;cases t;obtain⟨a,k,pl,C⟩:=I.list m;show call_all_walk (Nx pl.isList ?_);have d:p≠s.heap.objs.size:=m3 (by obtain⟨o,n,e,_⟩:=pl;show j2 e);have l:=k.length;rw[b_]at l;show{s.heap.objs.size,_,_,_,_,_,λi=>bs.getD i true,(),Walks.list (EJ (I.ok.hd hc)) s.heap.objs.size p d a.toArray,{{_,h_ _ (),(),()},?_},?_,?_}
 ·show pl.isList.push _
 ·intro i v w x D f c;have f:a.toArray[i]?=some v:=f;obtain⟨b,y,rfl⟩:=wg k (i:=i) (v:=v) (by simpa using f);show sT ?_;have e:bs.getD i true=b:=by simp[List.getD,y]
  have c:x (bs.getD i true) w:=c;rw[e]at c;show c
 ·intro h' tk z;have e:((List.range a.toArray.size).all λi=>bs.getD i true)=bs.all id:=by rw[md,<-l,BP]
  rw[e];show{.bl _,H,I.kept (h':=h') (t':=tk) λb o e=>z b o (by simp[m3 (j2 e)]) (c_ _ e),(),q}
def Cw(hc:X.calm=true):dG X (.builtin "any") (λg H Q=>∃(p:Addr)(bs:List Bool),g=[.ref p]/\aW X.K H p (bs.map V.bl)/\Q (.bl (bs.any id)) H):=by
 intro j s A H g B Q I r h;obtain⟨p,bs,rfl,m,q⟩:=h;obtain⟨u,rfl,t⟩:=k9 r;cases t;obtain⟨a,k,pl,C⟩:=I.list m;show call_any_walk (Nx pl.isList ?_);have d:p≠s.heap.objs.size:=m3 (by obtain⟨o,n,e,_⟩:=pl;show j2 e);have l:=k.length;rw[b_]at l;show{s.heap.objs.size,_,_,_,_,_,λi=>bs.getD i true,(),Walks.list (EJ (I.ok.hd hc)) s.heap.objs.size p d a.toArray,{{_,h_ _ (),(),()},?_},?_,?_}
 ·show pl.isList.push _
 ·intro i v w x D f c;have f:a.toArray[i]?=some v:=f;obtain⟨b,y,rfl⟩:=wg k (i:=i) (v:=v) (by simpa using f);show sT ?_;have e:bs.getD i true=b:=by simp[List.getD,y]
  have c:x (bs.getD i true) w:=c;rw[e]at c;show c
 ·intro h' tk z;have e:((List.range a.toArray.size).any λi=>bs.getD i true)=bs.any id:=by rw[md,<-l,BO]
  rw[e];show{.bl _,H,I.kept (h':=h') (t':=tk) λb o e=>z b o (by simp[m3 (j2 e)]) (c_ _ e),(),q}
def HC(x:Str):It:={λi _=>i<x.cps.size,λi H y a=>a=H/\∃c,x.cps[i]?=some c/\y=.str {#[c]},λi _=>x.cps.size<=i}
def CO{P:OK}{w:World}{K:OF}{L:Expr}(a:Addr)(x:Str)(t:Tok)(f:String)(hn:["enumerate","zip","dict_itemiterator","dict_reverseitemiterator","odict_iterator","itertools.zip_longest","itertools.pairwise"].contains f=false)(W:∀A:Around,A.handled=none->Walks P w A a [a] [a] x.cps.size (SignAt x) (λi h=>h.IsStrIter a f x t i))(S:∀(A:Around)(i:Nat)(s:Shared)(Q:OG)(E:OG),s.heap.IsStrIter a f x t i->Q (.ref a) s->wpAny (model P w) A (pyIter (.ref a)) Q E s):vh P w K L (HC x) [a] a (λi h=>i<=x.cps.size/\h.IsStrIter a f x t i)where
 mem:=by simp
 obj:=λi h st b j=>by
  have e:b=a:=by simpa using j
  subst e;obtain⟨_,o,e,c,d⟩:=st;show{o,e,λv z=>by rw[d]at z;cases z}
 keep:=λi h h' st k=>by obtain⟨l,o,e,r⟩:=st;show{l,o,k a (by simp) o e,r}
 item:=by intro X p q y hc i g s J H E I n st hg;subst p q y;obtain⟨B,f1,f2,f3,C,D⟩:=n a (by simp);show(W X.A (I.ok.hd hc)).item i s _ _ hg st.2 λv h' tk M m F=>?_;obtain⟨c,u,G,rfl⟩:=M;have I1:aN X g J H {s with heap:=h',toks:=tk}:=I.turned (λb o j e=>F b o (by simpa using j) e) B f1 f3 C D;obtain⟨o,e,N,d⟩:=id m;have O:i<x.cps.size:=hg;show{_,(),vU (s:={s with heap:=h',toks:=tk}) e N d hn {.str {#[c]},H,I1,{u,()},{(),c,G,()},{by omega,m},λb j=>(n b j).1}}
 done:=by intro X p q y hc i g s J H E I n st hg;subst p q y;obtain⟨B,f1,f2,f3,C,D⟩:=n a (by simp);have e:i=x.cps.size:=Nat.le_antisymm st.1 hg;subst e;show(W X.A (I.ok.hd hc)).done s _ _ st.2 λh' tk F=>{(),I.turned (λb o j e=>F b o (by simpa using j) e) B f1 f3 C D}
 self:=λA i s Q E st h=>S A i s Q E st.2 h
def Mn(a:TE):TI:=λb H R=>a b H λv c=>∃x,v=.str x/\R (HC x) c
def DL{g l:Expr}{j:TE}(n:PE X l j):PI X g l (Mn j):=by
 intro d s k H R I h;show cw (n d s k H _ I h) λv a p=>?_;obtain⟨y,r,I1,u,z⟩:=p;obtain⟨x,e,q⟩:=z;subst e;obtain⟨t,rfl⟩:=u;have fin:∀(c:String)(ob:Obj),(["enumerate","zip","dict_itemiterator","dict_reverseitemiterator","odict_iterator","itertools.zip_longest","itertools.pairwise"].contains c=false)->(∀A:Around,A.handled=none->Walks X.prog X.w A a.heap.objs.size [a.heap.objs.size] [a.heap.objs.size] x.cps.size (SignAt x) (λi h=>h.IsStrIter a.heap.objs.size c x t i))->(∀(A:Around)(i:Nat)(s:Shared)(Q:OG)(E:OG),s.heap.IsStrIter a.heap.objs.size c x t i->Q (.ref a.heap.objs.size) s->wpAny (model X.prog X.w) A (pyIter (.ref a.heap.objs.size)) Q E s)->(a.heap.push ob).IsStrIter a.heap.objs.size c x t 0->Mx X d k g R (.ref a.heap.objs.size) {a with heap:=a.heap.push ob}:=λc ob h1 h2 h3 h4=>by
  show{a.heap.objs.size,[a.heap.objs.size],_,HC x,r,(),I1.kept (t':=a.toks) λb o e=>c_ _ e,CO _ x t c h1 h2 h3,{np _,h4},λb B=>?_,q};have e:b=a.heap.objs.size:=by simpa using B
  subst e;show I1.fpOk (e_ _) (I1.hok.fresh (e_ _))
 cases m:x.cps.all (·<128)
 ·show wpAny_pyIter_wide m (fin "str_iterator" _ (by decide) (λA f=>Walks.strWide f _ x t) (λA i s Q E st h=>wpAny_pyIter_striter_wide st h) {_,h_ _ (),(),()})
 ·show wpAny_pyIter_ascii m (fin "str_ascii_iterator" _ (by decide) (λA f=>Walks.strAscii f _ x t) (λA i s Q E st h=>wpAny_pyIter_striter_ascii st h) {_,h_ _ (),(),()})
def He{x:Str}{g:TG}{n:TS}{D:jl}{a:St}{H:Hp}(Pv:Nat->St->Hp->Prop)(h0:Pv 0 a H)(q:∀i c a H,x.cps.toList[i]?=some c->Pv i a H->g (.str {#[c]}) a H λf l=>n {D with nx:=Pv (i+1),ct:=Pv (i+1),bk:=D.nx} f l)(hd:∀a H,Pv x.cps.toList.length a H->D.nx a H):∃W:Nat->Nat->St->Hp->Prop,(∃m,W 0 m a H)/\∀i m a H,W i m a H->((HC x).stop i H/\D.nx a H)\/((HC x).go i H/\∃N:St->Hp->Prop,(∀h j,N h j->∃o,o<m/\W (i+1) o h j)/\∀y j,(HC x).yld i H y j->g y a j λf l=>n {D with nx:=N,ct:=N,bk:=D.nx} f l):=by
 have d:x.cps.toList.length=x.cps.size:=by simp
 show{λi m a H=>m=x.cps.size-i/\i<=x.cps.size/\Pv i a H,{x.cps.size,by simp,np _,h0},?_};rintro i m a H⟨rfl,hi,p⟩
 by_cases b:i<x.cps.size
 ·show .inr {b,Pv (i+1),λh j k=>{x.cps.size-(i+1),by omega,(),b,k},λy j r=>?_};obtain⟨e,c,hc,rfl⟩:=r;subst e;show q i c a _ (by simpa using hc) p
 ·have e:i=x.cps.size:=by omega
  subst e;show .inl {e_ _,hd a H (by rw[d];show p)}
def Jc:V->List V->Hp->VK->Prop:=λx a H Q=>∃z y i r,x=.str z/\a=[.str y]/\Builtin.Str.occurrences z y 0 z.length 1=i::r/\Q (.int (i:Nat)) H
def Ec:MA X "str.index" Jc:=by intro a s e H x f v g Q I b c h;obtain⟨z,y,i,r,rfl,rfl,d,q⟩:=h;obtain⟨t,rfl⟩:=b;obtain⟨u,rfl,j,rfl⟩:=k9 c;show SC.index d {.int _,H,I.tok _,{_,()},q}
end
section
variable{X:Cx}(K:OF)(c:X.K=K)
include c
def aI:dG X (.builtin "len") (λa H Q=>∃x n,a=[x]/\LQ K x H n/\Q (.int n) H):=by subst c;show Fj
def ni:dG X (.builtin "isinstance") (λa H Q=>∃x T t b,a=[x,.ty T]/\kJ K H x t/\PySem.W.kitOne K t (.type T)=some b/\Q (.bl b) H):=by subst c;show y8
def iQ(hc:X.calm=true):dG X (.builtin "all") (λa H Q=>∃(p:Addr)(bs:List Bool),a=[.ref p]/\aW K H p (bs.map V.bl)/\Q (.bl (bs.all id)) H):=by subst c;show Cy hc
def nj(hc:X.calm=true):dG X (.builtin "any") (λa H Q=>∃(p:Addr)(bs:List Bool),a=[.ref p]/\aW K H p (bs.map V.bl)/\Q (.bl (bs.any id)) H):=by subst c;show Cw hc
def EF:Ku X (Jb K):=by subst c;show G4
def G3:Ku X (Ja K):=by subst c;show JJ
def lO:Ks X (K7 K):=by subst c;show Gi
def AE:Ks X (K0 K):=by subst c;show IU
def mi:kL X (compareOp .In) (rIn K false):=by subst c;show BT
def t7:kL X (binaryOp .Add) (HM K):=by subst c;show GI
def ux:dG X (.type "list") (λe H Q=>∃p a,e=[.ref p]/\(aW K H p a\/aS K H p a)/\∀l,H l=none->Q (.ref l) (aH H l (.lst a))):=by subst c;show xl
def fq:dG X (.type "tuple") (λe H Q=>∃p a,e=[.ref p]/\((aW K H p a/\∀l,H l=none->Q (.ref l) (aH H l (.tup a)))\/(aS K H p a/\Q (.ref p) H))):=by subst c;show vd
def c5{e l:Expr}{a:TE}(f:PE X l a):PI X e l (HU K a):=by subst c;show Gy f
def gC{e l:Expr}{a:TE}(f:PE X l a):PI X e l (Ly K a):=by subst c;show Jf f
def aR{a:Expr}{f:TE}(h:PE X a f)(i:∀e,isTrue a X.env e=(do let v<-e;standAt a.pos;holding [v] (truthy v))):PT X a (λj H Q=>f j H λx g=>∃k,Kb K x g k/\Q k g):=by subst c;show DJ h i
def eU{g:OM}{k:Nat}{a:Pos}{t:Kr}{n:Nat}(hc:X.calm=true)(h:Ke X g t)(hn:(assignEach g X.env).length=n:=by rfl)(e:(assignEach g X.env).findIdx? (·.1)=none:=by rfl):PG X (.Tuple g k a) (Hc K n t):=by subst c;show Jg hc h hn e
variable{o e:Expr}{g:OM}{m:TE}{t:TA}{i:Str}{j f:Pos}{T id:String}{r:V->List V->Hp->VK->Prop}
def ja(pa:PlainAttrs T)(slot:Slot T i id)(p:typeOf (.builtin id)=pure (.type "method_descriptor"))(hm:MA X id r)(q:PE X o m)(s:PA X (e::g) t)(h:attributeBase o i X.env (eval o X.env)=eval o X.env:=by rfl)(n:((backTo f (starEach (e::g) X.env)).all (λx=>!x.1)&&(backToKw f (keywordEach [] X.env)).all (λx=>x.1.isSome)&&decide ((e::g).length+([]:List Keyword).length+(if([]:List Keyword).isEmpty then 0 else 1)<30))=true:=by rfl)(l:(j.endLine==f.line)=true:=by rfl)(u:starEach (e::g) X.env=(false,eval e X.env)::starEach g X.env:=by rfl)(a:(backTo f (starEach g X.env)).any (·.1)=false:=by rfl):PE X (.Call (.Attribute o i j) (e::g) [] f) (tBM K T r m t):=by subst c;show Ld pa slot p hm q s h n l u a
end
def aJ:bootBuiltins "len"=some (.builtin "len"):=by decide+kernel
def Fm:bootBuiltins "max"=some (.builtin "max"):=by decide+kernel
def uC:bootBuiltins "min"=some (.builtin "min"):=by decide+kernel
def bo:bootBuiltins "isinstance"=some (.builtin "isinstance"):=by decide+kernel
def kH:bootBuiltins "all"=some (.builtin "all"):=by decide+kernel
def p7:bootBuiltins "any"=some (.builtin "any"):=by decide+kernel
def zc:bootBuiltins "divmod"=some (.builtin "divmod"):=by decide+kernel
def rD:bootBuiltins "sorted"=some (.builtin "sorted"):=by decide+kernel
def Fl:bootBuiltins "sum"=some (.builtin "sum"):=by decide+kernel
def Fn:bootBuiltins "int"=some (.type "int"):=by decide+kernel
def zb:bootBuiltins "str"=some (.type "str"):=by decide+kernel
def CA:bootBuiltins "bool"=some (.type "bool"):=by decide+kernel
def qJ:bootBuiltins "list"=some (.type "list"):=by decide+kernel
def bZ:bootBuiltins "tuple"=some (.type "tuple"):=by decide+kernel
def uB:bootBuiltins "set"=some (.type "set"):=by decide+kernel
def uD:bootBuiltins "enumerate"=some (.type "enumerate"):=by decide+kernel
def Fk:bootBuiltins "zip"=some (.type "zip"):=by decide+kernel
def vf:bootBuiltins "reversed"=some (.type "reversed"):=by decide+kernel
section
variable{X:Cx}
def lq(hg:Gl X x)(hm:X.mg x=none)(a:bootBuiltins x=some (.type T))(hn:x≠"__name__":=by decide)(hd:(x==("__debug__":Str))=false:=by decide):PE X (.Name x c) (tC (.ty T)):=GE hg hm a () hn hd
def ck(hm:∃u,X.mg x=some u/\a0 v u)(hg:Gl X x)(hd:(x==("__debug__":Str))=false:=by decide):PE X (.Name x a) (tC v):=by obtain⟨u,h1,h2⟩:=hm;show AO hg h1 h2 hd
end
def fN{K:OF}{A B:String}{b:Bool}(h:(if((Value.type A)==.type B)=true then some true else if PySem.W.kitMeta B=true then(fastBuiltinMro A).map (·.contains (.type B))else none)=some b):PySem.W.kitOne K (.type A) (.type B)=some b:=h
def kC{i j:Int}{A B:Prop}(h1:i=j->A)(h2:i≠j->B):if decide (V.int i=V.int j)=true then A else B:=by
 by_cases h:i=j
 ·subst h;rw[m_ ()];show bh (h1 ())
 ·rw[me (λe=>h (V.int.inj e))];show bV (h2 h)
def lD{c:Prop}[Decidable c]{A B:Prop}(h1:c->A)(h2:¬c->B):if decide c=true then A else B:=by
 by_cases h:c
 ·rw[m_ h];show bh (h1 h)
 ·rw[me h];show bV (h2 h)
def sk{b:Bool}{A B:Prop}(h1:b=true->A)(h2:b=false->B):if b=true then A else B:=by cases b with|true=>show bh (h1 ())|false=>show bV (h2 ())
def au(h:F (a.set j (some x)) H):io j x a H F:=h
def iy(h:F true H):Ky a H F:=h
def Ju(h:aH H a o b=none):b≠a/\H b=none:=by
 by_cases e:b=a
 ·rw[e,ag]at h;cases h
 ·rw[aq e]at h;show(e,h,)
def bI(i:Int){n:Int}(h:0<n):0<=i%n/\i%n<n:={M5 _ (by lia),M7 _ h}
def Jx(x:Int):Builtin.bitAnd x 2147483647=x%2147483648:=PySem.W.kbt_mask x 31
section
variable{X:Cx}
def Me:V->Option Int->Option Int->Hp->VK->Prop:=λx lo hi H Q=>∃z,x=.str z/\z.length<=sizeLine/\Q (.str (Txt.slice z lo hi)) H
def wD:Ks X Me:=by intro a s g H x v n o lo hi sl Q I m b pl d h;obtain⟨z,rfl,c,q⟩:=h;obtain⟨t,rfl⟩:=m;show{"str",_,F.slot_str_getitem.lookup,typeIs_str _ _ _,?_};have fin:∀(e:Tok)(k:Nat),EP X a g Q (.str (Txt.slice z lo hi) e) {s with toks:=k}:=λe k=>{.str _,H,I.tok k,{_,()},q};cases pl with
 |none=>cases d with|none=>show M9 (l:=none) (u:=none) (st:=none) b () (NW {lm (Txt.slice_le z _ _) c,fin})|int j u=>show M9 (l:=none) (u:=some (j,u)) (st:=none) b () (NW {lm (Txt.slice_le z _ _) c,fin})
 |int i f=>cases d with|none=>show M9 (l:=some (i,f)) (u:=none) (st:=none) b () (NW {lm (Txt.slice_le z _ _) c,fin})|int j u=>show M9 (l:=some (i,f)) (u:=some (j,u)) (st:=none) b () (NW {lm (Txt.slice_le z _ _) c,fin})
end
def Ic{c:Bool}{t u:TS}{D:jl}{a:St}{H:Hp}(J:St->Hp->Prop)(h1:∀a H,J a H->D.nx a H)(h2:∀N:St->Hp->Prop,(∀a H,J a H->N a H)->if c=true then t {D with nx:=N} a H else u {D with nx:=N} a H):if c=true then t D a H else u D a H:=h2 D.nx h1
def nR(h:D.nx a H):xO D a H:=h
def ak(h:ao c H)(hn:H a=none):ao c (aH H a o):=λb d f=>by have e:=h b d f;rw[aq (aG e hn)];show e
def uG(h0:0<=i)(h1:i<xs.length):∃c,vg xs i=some c/\c∈xs:=by show{xs[i.toNat]'(by lia),?_,Nf _};unfold vg G6;rw[i_ h0,i_ h1];change xs[i.toNat]?=_;rw[il (by lia)]
def cG{n:Nat}(h:n<=65536):n<=sizeLine:=by rw[ji];lia
mutual
inductive Au(K:OF)(H:Hp):V->PyData->Prop|non:Au K H .non .none|bl(b:Bool):Au K H (.bl b) (.bool b)|int(i:Int):Au K H (.int i) (.int i)|str(x:Str):Au K H (.str x) (.str x)|lst{a:Addr}{xs:List V}{ds:List PyData}:aW K H a xs->IsPs K H xs ds->Au K H (.ref a) (.list ds)|tup{a:Addr}{xs:List V}{ds:List PyData}:aS K H a xs->IsPs K H xs ds->Au K H (.ref a) (.tuple ds)
inductive IsPs(K:OF)(H:Hp):List V->List PyData->Prop|nil:IsPs K H [] []|cons{v:V}{d:PyData}{vs:List V}{ds:List PyData}:Au K H v d->IsPs K H vs ds->IsPs K H (v::vs) (d::ds)
end
section
variable{X:Cx}{c:OH}{f:St}{H:Hp}{s:Shared}
mutual
theorem Au.reads(I:aN X c f H s):∀{v:V}{d:PyData}{u:Value},Au X.K H v d->a0 v u->∃g,Reads s.heap u d g|_,_,_,.non,r=>by obtain rfl:_=Value.none:=r;show{_,.none}|_,_,_,.bl b,r=>by obtain rfl:_=Value.bool b:=r;show{_,.bool b}|_,_,_,.int i,r=>by obtain⟨t,rfl⟩:=r;show{_,.int i t}|_,_,_,.str x,r=>by obtain⟨t,rfl⟩:=r;show{_,.str x t}|_,_,_,.lst (a:=a) h j,r=>by obtain rfl:_=Value.ref a:=r;obtain⟨k,l,⟨o,n,e,hc,_,hd⟩,_⟩:=I.list h;obtain⟨g,q⟩:=IsPs.reads I j l;show{_,.list e hc hd (by simpa using q)}|_,_,_,.tup (a:=a) h j,r=>by obtain rfl:_=Value.ref a:=r;obtain⟨k,l,⟨o,e,hc,n,hd⟩,_⟩:=I.tuple h;obtain⟨g,q⟩:=IsPs.reads I j l;show{_,.tuple e hc hd (by simpa using q)}
theorem IsPs.reads(I:aN X c f H s):∀{a:List V}{ds:List PyData}{e:OJ},IsPs X.K H a ds->be a e->∃g,ReadsAll s.heap e ds g|_,_,_,.nil,r=>by cases r;show{_,.nil}|_,_,_,.cons h b,r=>by cases r with|cons d r2=>obtain⟨g,q⟩:=Au.reads I h d;obtain⟨bs,p⟩:=IsPs.reads I b r2;show{_,.cons q p}
end
end
section
variable{X:Cx}
def Lb(K:OF):R2:=λx y H Q=>∃d e,Au K H x d/\Au K H y e/\SeqAt.shaped d=true/\SeqAt.shaped e=true/\Q (.bl (PyData.eqv d e)) H
def Jn(c:X.A.units+64<cLine):kL X (compareOp .Eq) (Lb X.K):=by intro a s i H x y v u Q I b f h;obtain⟨d,e,h1,h2,h3,h4,q⟩:=h;obtain⟨j,g⟩:=h1.reads I b;obtain⟨bs,r2⟩:=h2.reads I f;show eq_dataH g r2 h3 h4 c {.bl _,H,I,(),q}
def Mp{A:Around}{k:Nat}(a:eZ k A):A.units+64<cLine:=by have:=a.un;lia
def GH(K:OF)(a:X.K=K)(c:X.A.units+64<cLine):kL X (compareOp .Eq) (Lb K):=by subst a;show Jn c
def Fi(hc:X.calm=true):dG X (.builtin "sum") (λa H Q=>∃(p:Addr)(ns:OQ),a=[.ref p]/\(aW X.K H p (ns.map V.int)\/aS X.K H p (ns.map V.int))/\Q (.int ns.sum) H):=by
 intro j s n H a o Q I r h;obtain⟨p,ns,rfl,d,q⟩:=h;obtain⟨u,rfl,k⟩:=k9 r;cases k;have sm:∀{b:OJ},be (ns.map V.int) b->∃a:Array (Int×Tok),b.toArray=intItems a/\preSum (numAt a) a.size=ns.sum:=λf=>by
  have hi:IntsAre _ ns:=zY f;obtain⟨a,c⟩:=hi.allInts.items;show{a,c,?_};have l:ns=a.toList.map (·.1):=by rw[<-nums_intItems,<-c];show hi.numsOf.symm
  rw[preSum_eq,ku (by simp),l]
 rcases d with d|d
 ·obtain⟨b,f,pl,m⟩:=I.list d;obtain⟨a,c,e⟩:=sm f;show sum_intListG (I.ok.hd hc) (xs:=a) (c▸pl.isList) λh' tk g i=>?_;rw[e];show{.int _,H,I.kept (h':=h') (t':=tk) i,{_,()},q}
 ·obtain⟨b,f,pt,m⟩:=I.tuple d;obtain⟨a,c,e⟩:=sm f;show PySem.W.ktm_sumG (I.ok.hd hc) (xs:=a) (c▸pt) λh' tk g i=>?_;rw[e];show{.int _,H,I.kept (h':=h') (t':=tk) i,{_,()},q}
def Cs(K:OF)(a:X.K=K)(hc:X.calm=true):dG X (.builtin "sum") (λc H Q=>∃(p:Addr)(ns:OQ),c=[.ref p]/\(aW K H p (ns.map V.int)\/aS K H p (ns.map V.int))/\Q (.int ns.sum) H):=by subst a;show Fi hc
end
def bu(h:ao f H)(hn:f a=none):ao f (aH H a o):=λb d c=>by
 have:b≠a:=λe=>by rw[e,hn]at c;cases c
 rw[aq this];show h b d c
def aj{a:Type}{c:List a}{k:Nat}{v:a}(h:c[k]?=some v):vg c (k:Int)=some v:=by have b:=(d_.mp h).1;unfold vg G6;rw[i_ (by lia),i_ (by lia)];show h
def nq{ns:OQ}{k:Int}(h0:0<=k)(h1:k<ns.length):vg (ns.map V.int) k=some (.int (ns.getD k.toNat 0)):=by obtain⟨n,rfl⟩:∃n:Nat,k=n:={k.toNat,by lia};show aj ?_;rw[ig,il (by lia)];simp only[pu,List.getD,il (show n<ns.length by lia)];rfl
def G5{n:Nat}{k:Int}(h0:0<=k)(h1:k<n):G6 n k=some k.toNat:=by unfold G6;rw[i_ h0,i_ h1]
def yE(ns:OQ)(j:Nat)(v:Int):(ns.map V.int).set j (.int v)=(ns.set j v).map V.int:=by rw[List.map_set]
def ao.tseq{K:OF}{H c:Hp}{a:Addr}{f:List V}(e:ao H c)(h:aS K H a f):aS K c a f:=by
 rcases h with h|h
 ·rcases h with h|⟨o,h⟩
  ·show .inl (.inl (e _ _ h))
  ·show .inl (.inr {o,e _ _ h})
 ·show .inr h
@[irreducible]def cI:Int:=10^(30:Int).toNat
def xN:cI=10^(30:Int).toNat:=by unfold cI;rfl
def qi:1000000000000000000<cI:=by rw[xN];decide+kernel
section
variable{X:Cx}
def tZ:kL X (binaryOp .Pow) (λx y H Q=>x=.int 10/\y=.int 30/\Q (.int cI) H):=by intro a s b H x y v u Q I c d h;obtain⟨rfl,rfl,q⟩:=h;rw[xN]at q;show DQ a s b H _ _ v u Q I c d {10,30,(),(),{by decide,by decide,by decide},q}
end
def lf{n i:Nat}{P:Prop}(hi:i<n)(h:P):∃a,a<n-i/\a=n-(i+1)/\i+1<=n/\P:={_,by lia,(),hi,h}
def ff{K:OF}{lo:Int}{n:Nat}{g:TG}{ds:OO}{k:Nat}{tc:TT}{te:TE}{r:St}{s:Hp}{D:Addr}{F:Hp->Prop}(Pv:Nat->List V->Hp->Prop)(h0:Pv 0 [] (aH s D (.lst [])))(u:∀i a c,i<n->Pv i a c->g (.int (lo+i)) (iE ds k r) c λf o=>tc f o λb j=>if b=true then te f j λy l=>l D=some (.lst a)/\a.length<sizeLine/\∃h,h<n-i/\h=n-(i+1)/\i+1<=n/\Pv (i+1) (a++[y]) (aH l D (.lst (a++[y])))else∃h,h<n-i/\h=n-(i+1)/\i+1<=n/\Pv (i+1) a j)(hd:∀a c,Pv n a c->F c):∃W:Nat->Nat->List V->Hp->Prop,(∃m,W 0 m [] (aH s D (.lst [])))/\∀i m a c,W i m a c->((FD lo n).stop i c/\F c)\/((FD lo n).go i c/\∀x q,(FD lo n).yld i c x q->g x (iE ds k r) q λf o=>tc f o λb j=>if b=true then te f j λy l=>l D=some (.lst a)/\a.length<sizeLine/\∃h,h<m/\W (i+1) h (a++[y]) (aH l D (.lst (a++[y])))else∃h,h<m/\W (i+1) h a j):=by
 show{λi m a c=>m=n-i/\i<=n/\Pv i a c,{_,(),np _,h0},?_};rintro i m a c⟨rfl,hi,p⟩
 by_cases d:i<n
 ·show .inr {d,λx q y=>?_};obtain⟨e,y⟩:=y;subst e y;show u i a _ d p
 ·have e:i=n:=by lia
  subst e;show .inl {e_ _,hd a c p}
def gj{K:OF}{a:Addr}{xs:List V}{g:TG}{ds:OO}{k:Nat}{tc:TT}{te:TE}{s:St}{u:Hp}{D:Addr}{F:Hp->Prop}(Pv:Nat->List V->Hp->Prop)(h0:Pv 0 [] (aH u D (.lst [])))(v:∀i c f,i<=xs.length->Pv i c f->aW K f a xs)(w:∀i x c f,xs[i]?=some x->Pv i c f->g x (iE ds k s) f λh o=>tc h o λb l=>if b=true then te h l λy n=>n D=some (.lst c)/\c.length<sizeLine/\∃j,j<xs.length-i/\j=xs.length-(i+1)/\i+1<=xs.length/\Pv (i+1) (c++[y]) (aH n D (.lst (c++[y])))else∃j,j<xs.length-i/\j=xs.length-(i+1)/\i+1<=xs.length/\Pv (i+1) c l)(hd:∀c f,Pv xs.length c f->F f):∃W:Nat->Nat->List V->Hp->Prop,(∃m,W 0 m [] (aH u D (.lst [])))/\∀i m c f,W i m c f->((Ig K a).stop i f/\F f)\/((Ig K a).go i f/\∀x r,(Ig K a).yld i f x r->g x (iE ds k s) r λh o=>tc h o λb l=>if b=true then te h l λy n=>n D=some (.lst c)/\c.length<sizeLine/\∃j,j<m/\W (i+1) j (c++[y]) (aH n D (.lst (c++[y])))else∃j,j<m/\W (i+1) j c l):=by
 show{λi m c f=>m=xs.length-i/\i<=xs.length/\Pv i c f,{_,(),np _,h0},?_};rintro i m c f⟨rfl,hi,p⟩;have q:=v i c f hi p
 by_cases d:i<xs.length
 ·show .inr {{xs,xs[i],q,by simp[d]},λx r y=>?_};obtain⟨e,y⟩:=y;subst e;show w i x c _ (y xs q) p
 ·have e:i=xs.length:=by lia
  subst e;show .inl {{xs,q,e_ _},hd c f p}
def gK{K:OF}{a:Addr}{xs:List V}{g:TG}{ds:OO}{k:Nat}{tc:TT}{te:TE}{s:St}{u:Hp}{D:Addr}{F:Hp->Prop}(Pv:Nat->List V->Hp->Prop)(h0:Pv 0 [] (aH u D (.lst [])))(v:∀i c f,i<=xs.length->Pv i c f->aS K f a xs)(w:∀i x c f,xs[i]?=some x->Pv i c f->g x (iE ds k s) f λh o=>tc h o λb l=>if b=true then te h l λy n=>n D=some (.lst c)/\c.length<sizeLine/\∃j,j<xs.length-i/\j=xs.length-(i+1)/\i+1<=xs.length/\Pv (i+1) (c++[y]) (aH n D (.lst (c++[y])))else∃j,j<xs.length-i/\j=xs.length-(i+1)/\i+1<=xs.length/\Pv (i+1) c l)(hd:∀c f,Pv xs.length c f->F f):∃W:Nat->Nat->List V->Hp->Prop,(∃m,W 0 m [] (aH u D (.lst [])))/\∀i m c f,W i m c f->((Ie K a).stop i f/\F f)\/((Ie K a).go i f/\∀x r,(Ie K a).yld i f x r->g x (iE ds k s) r λh o=>tc h o λb l=>if b=true then te h l λy n=>n D=some (.lst c)/\c.length<sizeLine/\∃j,j<m/\W (i+1) j (c++[y]) (aH n D (.lst (c++[y])))else∃j,j<m/\W (i+1) j c l):=by
 show{λi m c f=>m=xs.length-i/\i<=xs.length/\Pv i c f,{_,(),np _,h0},?_};rintro i m c f⟨rfl,hi,p⟩;have q:=v i c f hi p
 by_cases d:i<xs.length
 ·show .inr {{xs,xs[i],q,by simp[d]},λx r y=>?_};obtain⟨e,y⟩:=y;subst e;show w i x c _ (y xs q) p
 ·have e:i=xs.length:=by lia
  subst e;show .inl {{xs,q,e_ _},hd c f p}
def Fd{K:OF}{z:Str}{g:TG}{ds:OO}{k:Nat}{tc:TT}{te:TE}{r:St}{s:Hp}{D:Addr}{F:Hp->Prop}(Pv:Nat->List V->Hp->Prop)(h0:Pv 0 [] (aH s D (.lst [])))(u:∀i c a f,z.cps.toList[i]?=some c->Pv i a f->g (.str {#[c]}) (iE ds k r) f λh o=>tc h o λb l=>if b=true then te h l λy n=>n D=some (.lst a)/\a.length<sizeLine/\∃j,j<z.cps.toList.length-i/\j=z.cps.toList.length-(i+1)/\i+1<=z.cps.toList.length/\Pv (i+1) (a++[y]) (aH n D (.lst (a++[y])))else∃j,j<z.cps.toList.length-i/\j=z.cps.toList.length-(i+1)/\i+1<=z.cps.toList.length/\Pv (i+1) a l)(hd:∀a f,Pv z.cps.toList.length a f->F f):∃W:Nat->Nat->List V->Hp->Prop,(∃m,W 0 m [] (aH s D (.lst [])))/\∀i m a f,W i m a f->((HC z).stop i f/\F f)\/((HC z).go i f/\∀x q,(HC z).yld i f x q->g x (iE ds k r) q λh o=>tc h o λb l=>if b=true then te h l λy n=>n D=some (.lst a)/\a.length<sizeLine/\∃j,j<m/\W (i+1) j (a++[y]) (aH n D (.lst (a++[y])))else∃j,j<m/\W (i+1) j a l):=by
 show{λi m a f=>m=z.cps.toList.length-i/\i<=z.cps.toList.length/\Pv i a f,{_,(),np _,h0},?_};rintro i m a f⟨rfl,hi,p⟩;have v:z.cps.toList.length=z.cps.size:=by simp
 by_cases d:i<z.cps.size
 ·show .inr {d,λy q t=>?_};obtain⟨e,c,hc,rfl⟩:=t;subst e;show u i c a _ (by simpa using hc) p
 ·have e:i=z.cps.toList.length:=by lia
  subst e;show .inl {by change z.cps.size<=_;lia,hd a f p}
def yL{i j:Str}{A B:Prop}(h1:i=j->A)(h2:i≠j->B):if decide (V.str i=V.str j)=true then A else B:=by
 by_cases h:i=j
 ·subst h;rw[m_ ()];show bh (h1 ())
 ·rw[me (λe=>h (V.str.inj e))];show bV (h2 h)
abbrev fV(led:Bool):Obj:={cls:=.type "set",dict:=none,data:=.set #[] 0 (.fresh 0 0 led)}
def ui{a:Type}[BEq a](c:Nat->a)(i:Nat):List a:=((List.range i).map c).foldl step_dedup []
section
variable{a:Type}[DecidableEq a][BEq a][LawfulBEq a]
def vN(c:Nat->a)(i:Nat):ui c (i+1)=step_dedup (ui c i) (c i):=by change((List.range (i+1)).map c).foldl step_dedup []=_;rw[NY,ir,MP];rfl
def Ej(c:Nat->a)(i:Nat):(ui c i).length<=i:=by induction i with|zero=>show e_ 0|succ i b=>
  rw[vN];unfold step_dedup
  split
  ·show p6 b
  ·rw[j1];show y_ b
end
def qb(b:Bool)(h:Heap)(a:Addr)(c:ON):Prop:=∃o,h.get? a=some o/\o.cls=.type (cond b "list" "tuple")/\∃n,o.data=.seq c n
def qS(b:Bool)(h:Heap)(a l:Addr)(i:Nat):Prop:=∃o,h.get? a=some o/\o.cls=.type (cond b "list_iterator" "tuple_iterator")/\o.data=.fields #[.ref l,.int i 0]
def qb.at{b:Bool}{h h':Heap}{a:Addr}{c:ON}(x:qb b h a c)(e:∀o,h.get? a=some o->h'.get? a=some o):qb b h' a c:=Exists.imp (λ_ r=>{e _ r.1,r.2}) x
def qS.at{b:Bool}{h h':Heap}{a l:Addr}{i:Nat}(x:qS b h a l i)(e:∀o,h.get? a=some o->h'.get? a=some o):qS b h' a l i:=Exists.imp (λ_ r=>{e _ r.1,r.2}) x
section
variable{P:OK}{w:World}{A:Around}{E:OG}{s:Shared}
def AC{b:Bool}{l:Addr}{a:ON}{Q:OG}(c:qb b s.heap l a)(q:Q (.ref s.heap.objs.size) {s with heap:=s.heap.push {cls:=.type (cond b "list_iterator" "tuple_iterator"),data:=.fields #[.ref l,.int 0 0]}}):wpAny (model P w) A (pyIter (.ref l)) Q E s:=by cases b with|false=>show M6 c q|true=>show Nx c q
end
instance(priority:=10000)keyBEq:BEq (Sum Int Str):={λa b=>decide (a=b)}
instance(priority:=10000)keyLaw:LawfulBEq (Sum Int Str)where
 eq_of_beq:=λh=>l_ h
 rfl:=m_ rfl
def dd{a:Type}[BEq a](c:List a):List a:=c.foldl step_dedup []
def zB(a:List c)(d:c):(List.range a.length).map (λi=>a.getD i d)=a:=by show List.ext_getElem (by simp) λi h1 h2=>?_;simp[List.getD,il h2]
def GR[BEq c](a:List c)(d:c):ui (λi=>a.getD i d) a.length=dd a:=by unfold ui dd;rw[zB]
section
def G1(r:a0 (kV k) v):nX k v=true/\v.scannable=true:=by cases k with|inl i=>obtain⟨t,rfl⟩:=r;show{vS i t,()}|inr x=>obtain⟨t,rfl⟩:=r;show{vR x t,()}
end
theorem m9[BEq c]:∀(e:List c)(a:List c),(e.foldl step_dedup a).length<=a.length+e.length
 |[],a=>e_ _|k::r,a=>by
  have:=m9 r (step_dedup a k);have h2:(step_dedup a k).length<=a.length+1:=by
   unfold step_dedup
   split
   ·show sf _
   ·rw[j1];show e_ _
  rw[Es,oi];lia
theorem yU[DecidableEq f][BEq f][LawfulBEq f]:∀(g c:List f),c.Nodup->((g.foldl step_dedup c).length=c.length+g.length↔(c++g).Nodup)
 |[],c,h=>by simp[h]|k::r,c,h=>by
  rw[Es]
  by_cases e:c.any (·==k)=true
  ·have d:step_dedup c k=c:=by unfold step_dedup;rw[i_ e]
   have hm:k∈c:=by obtain⟨x,j,q⟩:=NP.mp e;rw[<-eq_of_beq q];show j
   rw[d]
   constructor
   ·intro q;have:=m9 r c;rw[oi]at q;lia
   ·intro q;rw[ov]at q;show absurd () (q.2.2 k hm k (mo))
  ·have d:step_dedup c k=c++[k]:=by unfold step_dedup;rw[iA e]
   have hm:k∉c:=λl=>e (NP.mpr {k,l,MG k});rw[d];have i:=yU r (c++[k]) (by rw[ov];show{h,by simp,λa m b n q=>hm (by rw[List.mem_singleton.mp n]at q;show q▸m)})
   rw[MR]at i;rw[show c++k::r=c++([k]++r)by rfl,<-i,j1,oi,List.length_singleton]
   constructor<;>intro q<;>lia
def J5[DecidableEq c][BEq c][LawfulBEq c](a:List c):(dd a).length=a.length↔a.Nodup:=by have:=yU a [] MT;simp at this;unfold dd;show this
end L2
namespace L2
open PySem
def CQ(t:SetTable)(n:Nat):(t.orStandIn n).led=t.led/\(t.plain=false->(t.orStandIn n).plain=false):=by
 unfold SetTable.orStandIn
 split
 ·show{(),id}
 ·show{(),λ_=>()}
def Io(t:SetTable)(a:Array (Int×Value))(h:Int)(x:Value):(layNew t a h x).2.1.led=t.led/\(t.plain=false->(layNew t a h x).2.1.plain=false):=by
 unfold layNew
 split
 ·rename_i sl wd e;show CQ (t.put sl).1 _
 ·show{(),λ_=>()}
def CS(t:SetTable)(a:Array (Int×Value))(n:Nat):(relayAll t a n).2.1.led=t.led/\(t.plain=false->(relayAll t a n).2.1.plain=false):=by
 unfold relayAll
 split
 ·rename_i b d e;have c:b.led=t.led/\b.plain=t.plain:=by unfold SetTable.relaid SetTable.laid at e;cases hc:SetTable.layClean (SetTable.sizeAbove n-1) (a.map (·.1))with|none=>rw[hc]at e;cases e|some ow=>rw[hc]at e;cases e;show{(),()}
  dsimp only
  split
  ·show{c.1,λh=>c.2.trans h}
  ·show{(),λ_=>()}
 ·show{(),λ_=>()}
def um(h:l[i]?=some x):(x::l.eraseIdx i).Perm l:=by
 have a:=(d_.mp h).1;have b:=(d_.mp h).2;have e:l=l.take i++x::l.drop (i+1):=by rw[<-b,List.getElem_cons_drop,u_]
 rw[List.eraseIdx_eq_take_drop_succ];show List.Perm.trans ?_ (OD e.symm);show List.perm_middle.symm
def vG(next:Nat->Nat)(c:Array e):(pickOrder next c).toList.Perm c.toList:=by
 have go:∀(a k:Nat)(left:List e)(out:Array e),left.length<=a->(pickOrder.go next a k left out).toList.Perm (out.toList++left):=by
  intro a
  induction a with|zero=>intro k left out h;have:left=[]:=rr.mp (by lia);subst this;unfold pickOrder.go;rw[pv]|succ a d=>intro k left out h;unfold pickOrder.go;cases b:left[next k%left.length]?with
 |none=>
    have hn:left=[]:=by cases left with|nil=>rfl|cons y f=>have:=MZ.mp b;have:=Nat.mod_lt (next k) (show 0<(y::f).length from rd _);lia
    subst hn;rw[pv]|some x=>have g:=(d_.mp b).1;have i:=(d_.mp b).2;dsimp only;show(d _ _ _ (by rw[List.length_eraseIdx];split<;>lia)).trans ?_;rw[Oq,MR];show List.Perm.append_left _ ?_;change(x::left.eraseIdx (next k%left.length)).Perm left;show um b
 have:=go c.size 0 c.toList #[] (by simp);unfold pickOrder;simpa using this
def g9:Slot "set_iterator" "__next__" "set_iterator.__next__":=.of (owner:="set_iterator") (n:="__next__") (by rw[NV,Na];kernel_rfl) (by decide+kernel) (by decide+kernel) (by decide+kernel) (by first|show .inl (by decide+kernel)|show .inr (by decide+kernel)) (by rw[N7];kernel_rfl)
def sB:Slot "set_iterator" "__iter__" "set_iterator.__iter__":=.of (owner:="set_iterator") (n:="__iter__") (by rw[NV,Na];kernel_rfl) (by decide+kernel) (by decide+kernel) (by decide+kernel) (by first|show .inl (by decide+kernel)|show .inr (by decide+kernel)) (by rw[N7];kernel_rfl)
def xS:Manifest.owners.lookup (String.ofList ['r','o','t','a','r','e','t','i','_','t','e','s'].reverse)=some Manifest.sig_set_iterator:=by kernel_rfl
def kN(a:Value):argsOk "set_iterator.__next__" {[a],[]}:=by unfold argsOk;rw[signature?_of (id:="set_iterator.__next__") (n:=['_','_','t','x','e','n','_','_']) (o:=['r','o','t','a','r','e','t','i','_','t','e','s']) (by kernel_rfl) xS];kernel_rfl
def oS(a:Value):argsOk "set_iterator.__iter__" {[a],[]}:=by unfold argsOk;rw[signature?_of (id:="set_iterator.__iter__") (n:=['_','_','r','e','t','i','_','_']) (o:=['r','o','t','a','r','e','t','i','_','t','e','s']) (by kernel_rfl) xS];kernel_rfl
def jH:entryFor table "set_iterator.__next__"=some Builtin.«set_iterator.__next__»:=entryFor_of_tree (by kernel_rfl)
def nC:entryFor table "set_iterator.__iter__"=some Builtin.«dict_keyiterator.__iter__»:=entryFor_alias (id':="dict_keyiterator.__iter__") (by kernel_rfl) () (by decide+kernel) (by kernel_rfl)
def sX:entryFor table "set.__iter__"=some Builtin.«frozenset.__iter__»:=entryFor_alias (id':="frozenset.__iter__") (by kernel_rfl) () (by decide+kernel) (by kernel_rfl)
abbrev ik(first:Value)(i:Nat)(a:Addr)(n c:Nat):Obj:={cls:=.type "set_iterator",dict:=none,data:=.fields #[first,.int i 0,.ref a,.int n 0,.int c 0],slots:=#[]}
abbrev lc(a:OJ):Obj:={cls:=.type "tuple",dict:=none,data:=.seq a.toArray}
structure fY(h:Heap)(a:Addr)(es:Array (Int×Value))(ep:Nat)(t:SetTable):Prop where
 ob:∃o,h.get? a=some o/\o.cls=.type "set"/\o.data=.set es ep t
 fits:t.fits es.size=true
def fY.keep(x:fY h a c f t)(k:∀o,h.get? a=some o->h'.get? a=some o):fY h' a c f t:={let⟨o,e,r⟩:=x.ob;{o,k o e,r},x.fits}
def fY.ty{s:Shared}{a:Addr}{f:Array (Int×Value)}{g:Nat}{t:SetTable}(x:fY s.heap a f g t):s.TypeIs (.ref a) "set":=let⟨o,e,c,_⟩:=x.ob;(o,e,c,)
section
variable{prog:OK}{w:World}{A:Around}{E:OG}{s:Shared}
theorem uq:∀(n:Nat)(a:List f)(s:Shared)(Q:List f->Shared->Prop),a.length<=n->(∀c e,c.Perm a->Q c {s with drawn:=e})->wpAny (model prog w) A (drawOrder n a) Q E s
 |0,a,s,Q,d,h=>by have:a=[]:=rr.mp (by lia);subst this;unfold drawOrder;show f_ (h [] s.drawn (N_ _))|n+1,[],s,Q,d,h=>by unfold drawOrder;show f_ (h [] s.drawn (N_ _))|n+1,x::r,s,Q,d,h=>by
  unfold drawOrder;show a_ (m:=choose .order (x::r).length) (λΓ p g=>?_);unfold choose;rw[Sem.wp_choose];show{Nat.succ_ne_zero _,?_};have hi:w.draws .order (s.drawn.get .order)%(x::r).length<(x::r).length:=Nat.mod_lt _ (rd _);have b:wpAny (model prog w) A (match(x::r)[w.draws .order (s.drawn.get .order)%(x::r).length]?with|some y=>do return y::(<-drawOrder n ((x::r).eraseIdx (w.draws .order (s.drawn.get .order)%(x::r).length)))|none=>unsupported "internal:drawOrder") Q E {s with drawn:=s.drawn.bump .order}:=by generalize w.draws .order (s.drawn.get .order)%(x::r).length=i at hi⊢;rw[il hi];show a_ (uq n _ _ _ (by rw[List.length_eraseIdx,i_ hi];lia) λc e j=>?_);show f_ (h _ _ ((List.Perm.cons _ j).trans (um (il hi))))
  show b
set_option maxHeartbeats 4000000 in
def EG{a:Addr}{c:Array (Int×Value)}{h:Nat}{t:SetTable}{Q:OG}(f:fY s.heap a c h t)(hn:c.size<=sizeLine)(h1:(!w.params.followText "set-order"&&(!t.plain&&decide (c.size>1)))=false->Q (.ref s.heap.objs.size) {s with heap:=s.heap.push (ik (.int 0 0) 0 a c.size h)})(h2:(!w.params.followText "set-order"&&(!t.plain&&decide (c.size>1)))=true->∀(e:OO)(g:Drawn),e.Perm (List.range c.size)->Q (.ref (s.heap.objs.size+1)) {s with heap:=(s.heap.push (lc (e.map λ(i:Nat)=>Value.int (i:Int) 0))).push (ik (.ref s.heap.objs.size) 0 a c.size h),drawn:=g}):wpAny (model prog w) A (pyIter (.ref a)) Q E s:=by obtain⟨o,b,hc,hd⟩:=f.ob;have d:=f.fits;show Oi f.ty F.slot_set_iter (q_ F.slot_set_iter f.ty sX ?_ (F.args_set_iter_1 _));unfold Builtin.«frozenset.__iter__»;show a_ (m:=Builtin.Frozenset.slot0 "__iter__" _) (a_ (m:=slotArgs "__iter__" 0 _) (f_ (f_ ?_)));show a_ (m:=Builtin.Frozenset.sizeOf a) (a_ (Nq b hd d (f_ ?_)));show a_ (m:=setDrawn a) (a_ (MO b hd d (a_ (a_ (MX (f_ ?_))))));show f_ ?_;dsimp only;change wpAny _ _ (if(!w.params.followText "set-order"&&(!t.plain&&decide (c.size>1)))=true then _ else _) _ _ s;cases hc:(!w.params.followText "set-order"&&(!t.plain&&decide (c.size>1)))with|false=>rw[iA kw];show a_ (f_ ?_);show a_ (wpAny_setEpoch_of b hd d ?_);show a_ (rb (f_ {_,(),"set_iterator",_,{_,h_ _ (),()},g9.lookup,?_}));show h1 hc|true=>
  rw[i_ ()];show a_ (uq c.size (List.range c.size) s _ (by rw[ri];show e_ _) λe g k=>?_);have l:e.length=c.size:=by rw[k.length_eq,ri]
  show a_ (rb ?_ (by change(e.map λ(i:Nat)=>rawInt i).toArray.size<=sizeLine;rw[md,b_,l];show hn));have j:(s.heap.push (lc (e.map λ(i:Nat)=>Value.int (i:Int) 0))).get? a=some o:=c_ _ b;show a_ (wpAny_setEpoch_of (s:={s with heap:=s.heap.push (lc (e.map λ(i:Nat)=>Value.int (i:Int) 0)),drawn:=g}) j hd d ?_);show a_ (rb (f_ {_,(),"set_iterator",_,{_,h_ _ (),()},g9.lookup,?_}));have:=h2 hc e g k;rw[show s.heap.objs.size+1=(s.heap.push (lc (e.map λ(i:Nat)=>Value.int (i:Int) 0))).objs.size from(p_ ..).symm]at this;show this
def BZ{I a:Addr}{e:Array (Int×Value)}{c i slot nx:Nat}{t:SetTable}{x:Value}{Q:Option Value->Shared->Prop}(f:s.heap.get? I=some (ik (.int slot 0) i a e.size c))(g:fY s.heap a e c t)(hn:∀(A:Around)(h:Option (Value×Nat)->Shared->Prop)(E:OG),h (some (x,nx)) s->wpAny (model prog w) A (setNext a slot i c) h E s)(j:∀h',h'.get? I=some (ik (.int nx 0) (i+1) a e.size c)->Heap.SameBut I s.heap h'->Q (some x) {s with heap:=h'}):wpAny (model prog w) A (pyNext (.ref I)) Q E s:=by obtain⟨o,d,hc,hd⟩:=g.ob;have ty:s.TypeIs (.ref I) "set_iterator":={_,f,()};unfold pyNext;show a_ (NE (ro (name:=Str.ofString "__next__") ty g9 (q_ g9 ty jH ?_ (kN _))));unfold Builtin.«set_iterator.__next__»;show a_ (m:=slotArgs "__next__" 0 _) (f_ ?_);show a_ (wpAny_fieldsOf f () ?_);change wpAny _ _ (setEntries a>>=_) _ _ s;show a_ (Nq d hd g.fits ?_);rw[iA (by simp)];show a_ (m:=setNext a slot i c) (hn _ _ _ ?_);show a_ (sg f (by simp) λh1 k b1=>?_);show a_ (sg (s:={s with heap:=h1}) k (by simp) λh2 l b2=>?_);show f_ {_,(),f_ (j h2 ?_ (b1.trans b2))};rw[l];rfl
def zK{I T a:Addr}{c:Array (Int×Value)}{e i:Nat}{f:OO}{j:Nat}{t:SetTable}{x:Int×Value}{Q:Option Value->Shared->Prop}(g:s.heap.get? I=some (ik (.ref T) i a c.size e))(h:fY s.heap a c e t)(n:s.heap.get? T=some (lc (f.map λ(i:Nat)=>Value.int (i:Int) 0)))(p:f[i]?=some j)(q:c[j]?=some x)(r:∀h',h'.get? I=some (ik (.ref T) (i+1) a c.size e)->Heap.SameBut I s.heap h'->Q (some x.2) {s with heap:=h'}):wpAny (model prog w) A (pyNext (.ref I)) Q E s:=by
 obtain⟨o,k,hc,hd⟩:=h.ob;have ty:s.TypeIs (.ref I) "set_iterator":={_,g,()};unfold pyNext;show a_ (NE (ro (name:=Str.ofString "__next__") ty g9 (q_ g9 ty jH ?_ (kN _))));unfold Builtin.«set_iterator.__next__»;show a_ (m:=slotArgs "__next__" 0 _) (f_ ?_);show a_ (wpAny_fieldsOf g () ?_);change wpAny _ _ (setEntries a>>=_) _ _ s;show a_ (Nq k hd h.fits ?_);rw[iA (by simp)];change wpAny _ _ (seqItems? (.ref T)>>=_) _ _ s;show a_ (z8 n () ?_);have b:(f.map λ(i:Nat)=>Value.int (i:Int) 0).toArray[(i:Int).toNat]?=some (.int (j:Nat) 0):=by rw[N6,ig,pu,p];rfl
 change wpAny _ _ (match(f.map λ(i:Nat)=>Value.int (i:Int) 0).toArray[(i:Int).toNat]?with|some (.int d _)=>_|some _=>_|none=>_) _ _ s;rw[b];show a_ (m:=setNextDrawn a j e) ?_;unfold setNextDrawn;show a_ (MO k hd h.fits ?_);dsimp only;rw[iA (by simp)];rw[q];show f_ ?_;show a_ (sg g (by simp) λh1 u b1=>?_);show f_ {_,(),f_ (r h1 ?_ b1)};rw[u];rfl
end
def gq(a:Array Nat):Prop:=∀i j:Nat,i<j->j<a.size->a.getD i 0<a.getD j 0
def EW{a:Array Nat}{i:Nat}(h:i<a.size)(d:Nat):a.getD i d=a.getD i 0:=by simp[Array.getD,h]
def gq.le(r:gq a)(h:i<=j)(c:j<a.size):a.getD i 0<=a.getD j 0:=by
 rcases NS i j with q|q
 ·show z4 (r i j q c)
 ·have:i=j:=by lia
  rw[this];show e_ _
theorem uF{a:Array Nat}(r:gq a)(j:Nat):∀(fuel lo hi:Nat),hi-lo<=fuel->lo<=hi->hi<=a.size->(∀k,k<lo->a.getD k 0<j)->(∀k,hi<=k->k<a.size->¬a.getD k 0<j)->SetTable.below.go a j fuel lo hi<=a.size/\(∀k,k<SetTable.below.go a j fuel lo hi->a.getD k 0<j)/\(∀k,SetTable.below.go a j fuel lo hi<=k->k<a.size->¬a.getD k 0<j)
 |0,lo,hi,g,h,c,h1,h2=>by
  unfold SetTable.below.go;have:lo=hi:=by lia
  subst this;show(c,h1,h2,)|fuel+1,lo,hi,g,h,c,h1,h2=>by
  unfold SetTable.below.go
  by_cases b:lo<hi
  ·rw[i_ b];have hm:(lo+hi)/2<a.size:=by lia
   dsimp only;rw[EW hm j]
   by_cases d:a.getD ((lo+hi)/2) 0<j
   ·rw[i_ d];show uF r j fuel _ _ (by lia) (by lia) c (λk f=>si (r.le (by lia) hm) d) h2
   ·rw[iA d];show uF r j fuel _ _ (by lia) (by lia) (by lia) h1 (λk f e q=>d (si (r.le f e) q))
  ·rw[iA b];have:lo=hi:=by lia
   subst this;show(c,h1,h2,)
def qK(r:gq a)(j:Nat):SetTable.below a j<=a.size/\(∀k,k<SetTable.below a j->a.getD k 0<j)/\(∀k,SetTable.below a j<=k->k<a.size->¬a.getD k 0<j):=uF r j a.size 0 a.size (by lia) (np _) (e_ _) (λk b=>absurd b (Np _)) (λk h1 h2=>absurd h2 (by lia))
def Dx(a:Array Nat):Nat->Nat|0=>0|i+1=>a.getD i 0+1
def uE(r:gq a):∀{i:Nat},i<=a.size->SetTable.below a (Dx a i)=i
 |0,_=>by
  obtain⟨h1,h2,h3⟩:=qK r 0;rcases Nat.eq_zero_or_pos (SetTable.below a 0)with q|q
  ·show q
  ·show absurd (h2 0 q) (Np _)|i+1,hi=>by
  obtain⟨h1,h2,h3⟩:=qK r (a.getD i 0+1);change SetTable.below a (a.getD i 0+1)=i+1;rcases Nat.lt_trichotomy (SetTable.below a (a.getD i 0+1)) (i+1)with q|q|q
  ·show absurd (wh _) (h3 i (by lia) (by lia))
  ·show q
  ·have:=h2 (i+1) q;have:=r i (i+1) (wh _) (by lia);lia
def gq.few{a:Array Nat}(h:a.size<=1):gq a:=λi j h1 h2=>by lia
section
variable{prog:OK}{w:World}{A:Around}{E:OG}{s:Shared}
def oT(c:fY s.heap a j f t)(g:w.params.followText "set-order"=true)(h:Q (((pickOrder (w.params.setOrder a f) j)[i]?).map λe=>(e.2,slot)) s):wpAny (model prog w) A (setNext a slot i f) Q E s:=by obtain⟨o,b,hc,hd⟩:=c.ob;unfold setNext;show a_ (MO b hd c.fits ?_);dsimp only;show a_ (m:=setsByText) (a_ (MX (f_ ?_)));change wpAny _ _ (if(w.params.followText "set-order")=true then _ else _) _ _ s;rw[i_ g,iA (by simp)];show a_ (m:=setWalk a) ?_;unfold setWalk;show a_ (MO b hd c.fits ?_);dsimp only;show a_ (m:=setsByText) (a_ (MX (f_ ?_)));change wpAny _ _ (if(w.params.followText "set-order")=true then _ else _) _ _ s;rw[i_ g];show a_ (MX (f_ ?_));show f_ h
def oU(e:fY s.heap a c f t)(g:w.params.followText "set-order"=false)(l:(!t.plain&&decide (c.size>1))=false)(n:t.led=true)(h:Q (match c[SetTable.below t.place slot]?,t.place[SetTable.below t.place slot]?with|some (_,x),some j=>some (x,j+1)|_,_=>none) s):wpAny (model prog w) A (setNext a slot i f) Q E s:=by obtain⟨o,b,hc,hd⟩:=e.ob;unfold setNext;show a_ (MO b hd e.fits ?_);dsimp only;show a_ (m:=setsByText) (a_ (MX (f_ ?_)));change wpAny _ _ (if(w.params.followText "set-order")=true then _ else _) _ _ s;rw[iA (by rw[g];show kw)];change wpAny _ _ (if(!t.plain&&decide (c.size>1))=true then _ else _) _ _ s;rw[iA (by rw[l];show kw)];show a_ ?_;change wpAny _ _ (if(!t.led&&!c.isEmpty)=true then _ else _) _ _ s;rw[iA (by rw[n];simp)];show f_ (f_ h)
def yz(hh:A.handled=none)(g:s.heap.get? I=some (ik first i a q.size h))(l:fY s.heap a q h t)(hn:(∃slot:Nat,first=.int slot 0/\∀(A:Around)(n:Option (Value×Nat)->Shared->Prop)(E:OG),n none s->wpAny (model prog w) A (setNext a slot i h) n E s)\/∃(T:Addr)(f:OO),first=.ref T/\s.heap.get? T=some (lc (f.map λ(i:Nat)=>Value.int (i:Int) 0))/\f[i]?=none)(r:∀h',(∀b o,b≠I->s.heap.get? b=some o->h'.get? b=some o)->Q none {s with heap:=h'}):wpAny (model prog w) A (pyNext (.ref I)) Q E s:=by
 obtain⟨o,u,hc,hd⟩:=l.ob;have ty:s.TypeIs (.ref I) "set_iterator":={_,g,()};have fin:∀(R:Fin->Shared->Prop)(h1:Heap),(∀b o,b≠I->s.heap.get? b=some o->h1.get? b=some o)->wpAny (model prog w) A.in1 (newExc (.type "StopIteration") []>>=λe=>raiseNew e:Sem Fin) R (λe v=>wpAny (model prog w) A (do if<-isInstance e (.type "StopIteration")then pure none else throw e) Q E v) {s with heap:=h1}:=by intro R h1 x;show a_ ?_;simp only[newExc,newTuple];show a_ (rb ?_ (by size_fits));show a_ (m:=firstArgMember _ _) (wpAny_of_eq (a:=Value.none) (by first|rfl|(simp only[firstArgMember];rfl)) ?_);show rb ?_ (by size_fits);simp only[raiseNew];show a_ (wpAny_handled ?_);rw[show A.in1.handled=none from hh];show a_ (f_ (wpAny_throw ?_));show a_ (NJ (T:="StopIteration") (b:=true) {_,h_ _ (),()} isSubtype_stop ?_);show f_ (r _ λb o c e=>c_ _ (c_ _ (x b o c e)))
 unfold pyNext;show a_ (NE (ro (name:=Str.ofString "__next__") ty g9 (q_ g9 ty jH ?_ (kN _))));unfold Builtin.«set_iterator.__next__»;show a_ (m:=slotArgs "__next__" 0 _) (f_ ?_);show a_ (wpAny_fieldsOf g () ?_);change wpAny _ _ (setEntries a>>=_) _ _ s;show a_ (Nq u hd l.fits ?_);rw[iA (by simp)];rcases hn with⟨slot,rfl,hn⟩|⟨T,f,rfl,y,z⟩
 ·show a_ (m:=setNext a slot i h) (hn _ _ _ ?_);show a_ (sg g (by simp) λh1 p b1=>?_);show fin _ h1 λb o c e=>(b1.2 b c).trans e
 ·change wpAny _ _ (seqItems? (.ref T)>>=_) _ _ s;show a_ (z8 y () ?_);have d:(f.map λ(i:Nat)=>Value.int (i:Int) 0).toArray[(i:Int).toNat]?=none:=by rw[N6,ig,pu,z];rfl
  change wpAny _ _ (match(f.map λ(i:Nat)=>Value.int (i:Int) 0).toArray[(i:Int).toNat]?with|some (.int j _)=>_|some _=>_|none=>_) _ _ s;rw[d];show a_ (sg g (by simp) λh1 p b1=>?_);show a_ (sg (s:={s with heap:=h1}) p (by simp) λh2 B b2=>?_);show fin _ h2 λb o c e=>(b2.2 b c).trans ((b1.2 b c).trans e)
def CH(hh:A.handled=none)(L:fY s.heap a c f t)(hn:c.size<=sizeLine)(hl:w.params.followText "set-order"=false->t.led=true)(hr:t.plain=true->gq t.place)(h:∀(I:Addr)(h':Heap)(S:Drawn)(ord:List (Int×Value))(fp:OP)(St:Nat->Heap->Prop),ord.Perm c.toList->(∀b o,s.heap.get? b=some o->h'.get? b=some o)->s.heap.objs.size<=I->I<h'.objs.size->(∀b∈fp,b=a\/s.heap.objs.size<=b)->Walks prog w A I fp [I] c.size (λi v=>∃x,ord[i]?=some x/\v=x.2) St->St 0 h'->Q (.ref I) {s with heap:=h',drawn:=S}):wpAny (model prog w) A (pyIter (.ref a)) Q E s:=by
 have ha:a<s.heap.objs.size:=let⟨o,e,_⟩:=L.ob;j2 e;have T:t.place.size=c.size:=by have:=L.fits;unfold SetTable.fits at this;simp only[nk,beq_iff_eq]at this;show this.1
 show EG L hn (λhc=>?_) (λhc p S K=>?_)
 ·--by slots
  have M:∀b o,s.heap.get? b=some o->(s.heap.push (ik (.int 0 0) 0 a c.size f)).get? b=some o:=λb o e=>c_ _ e;have hg:(s.heap.push (ik (.int 0 0) 0 a c.size f)).get? s.heap.objs.size=some (ik (.int 0 0) 0 a c.size f):=h_ _ ();have U:s.heap.objs.size<(s.heap.push (ik (.int 0 0) 0 a c.size f)).objs.size:=by rw[p_];show wh _
  have G:a≠s.heap.objs.size:=m3 ha;have B:∀(first:Nat->Nat)(ord:List (Int×Value)),first 0=0->ord.Perm c.toList->(∀(i:Nat)(d:Shared)(x:Int×Value),ord[i]?=some x->fY d.heap a c f t->∀(A:Around)(C:Option (Value×Nat)->Shared->Prop)(E:OG),C (some (x.2,first (i+1))) d->wpAny (model prog w) A (setNext a (first i) i f) C E d)->(∀(d:Shared),fY d.heap a c f t->∀(A:Around)(C:Option (Value×Nat)->Shared->Prop)(E:OG),C none d->wpAny (model prog w) A (setNext a (first c.size) c.size f) C E d)->Q (.ref s.heap.objs.size) {s with heap:=s.heap.push (ik (.int 0 0) 0 a c.size f)}:=by
   intro first ord f0 K hi hd;have V:ord.length=c.size:=by rw[K.length_eq,nB]
   show h s.heap.objs.size _ s.drawn ord [s.heap.objs.size,a] (λi h'=>h'.get? s.heap.objs.size=some (ik (.int (first i) 0) i a c.size f)/\fY h' a c f t) K M (e_ _) U ?_ ?_ ?_
   ·intro b g;simp only[so,o_,ML]at g;rcases g with rfl|rfl
    ·show .inr (e_ _)
    ·show .inl ()
   ·show{sub:=λb g=>?_,frame:=λi h1 h2 st k=>?_,item:=λi d N O W st q=>?_,done:=λd N O st q=>?_,self:=λi d N O st q=>?_}
    ·rw[List.mem_singleton.mp g];show mo
    ·show{k _ mo _ st.1,st.2.keep λo e=>k _ (j_ _ mo) _ e}
    ·obtain⟨x,m⟩:∃x,ord[i]?=some x:={ord[i]'(by lia),il (by lia)};show BZ (nx:=first (i+1)) st.1 st.2 (hi i d x m st.2) λh2 X b2=>?_;show q x.2 h2 d.toks {x,m,()} {X,st.2.keep λo e=>(b2.2 _ G).trans e} λb o g e=>(b2.2 b λz=>g (by rw[z];show List.mem_singleton.mpr ())).trans e
    ·show yz hh st.1 st.2 (.inl {_,(),hd d st.2}) λh2 Y=>?_;show q h2 d.toks λb o g e=>Y b o (λz=>g (by rw[z];show List.mem_singleton.mpr ())) e
    ·have ty:d.TypeIs (.ref s.heap.objs.size) "set_iterator":={_,st.1,()};show Oi ty sB (q_ sB ty nC ?_ (oS _));show f_ {_,(),"set_iterator",_,ty,g9.lookup,q}
   ·rw[f0];show{hg,L.keep λo e=>M _ _ e}
  cases H:w.params.followText "set-order"with
 |true=>
   have V:(pickOrder (w.params.setOrder a f) c).toList.length=c.size:=by rw[(vG _ _).length_eq,nB]
   show B (λ_=>0) (pickOrder (w.params.setOrder a f) c).toList () (vG _ _) (λi d x m u A C E q=>?_) (λd u A C E q=>?_)
   ·show oT u H ?_;have m:(pickOrder (w.params.setOrder a f) c)[i]?=some x:=by rw[<-y2];show m
    rw[m];show q
   ·show oT u H ?_;have m:(pickOrder (w.params.setOrder a f) c)[c.size]?=none:=by rw[<-y2];show MZ.mpr (by lia)
    rw[m];show q|false=>
   have D:(!t.plain&&decide (c.size>1))=false:=by rw[H]at hc;simpa using hc
   have rs:gq t.place:=by cases F:t.plain with|true=>show hr F|false=>rw[F]at D;show gq.few ?_;rw[T];simpa using D
   show B (Dx t.place) c.toList () (N_ _) (λi d x m u A C E q=>?_) (λd u A C E q=>?_)
   ·have m:c[i]?=some x:=by rw[<-y2];show m
    have hi:i<c.size:=(Array.getElem?_eq_some_iff.mp m).1;show oU u H D (hl H) ?_;rw[uE rs (by lia),m];have F:t.place[i]?=some (t.place.getD i 0):=by rw[x_ (by lia)];simp[Array.getD,show i<t.place.size by lia]
    rw[F];show q
   ·show oU u H D (hl H) ?_;rw[uE rs (by lia)];rw[show c[c.size]?=none from Array.getElem?_eq_none (e_ _)];show q
 ·--drawn
  have Z:(s.heap.push (lc (p.map λ(i:Nat)=>Value.int (i:Int) 0))).get? s.heap.objs.size=some (lc (p.map λ(i:Nat)=>Value.int (i:Int) 0)):=h_ _ ();have hz:(s.heap.push (lc (p.map λ(i:Nat)=>Value.int (i:Int) 0))).objs.size=s.heap.objs.size+1:=p_ ..;have M:∀b o,s.heap.get? b=some o->((s.heap.push (lc (p.map λ(i:Nat)=>Value.int (i:Int) 0))).push (ik (.ref s.heap.objs.size) 0 a c.size f)).get? b=some o:=λb o e=>c_ _ (c_ _ e);have hg:((s.heap.push (lc (p.map λ(i:Nat)=>Value.int (i:Int) 0))).push (ik (.ref s.heap.objs.size) 0 a c.size f)).get? (s.heap.objs.size+1)=some (ik (.ref s.heap.objs.size) 0 a c.size f):=by rw[<-hz];show h_ _ ()
  have ac:p.length=c.size:=by rw[K.length_eq,ri]
  have P:∀(i j:Nat),p[i]?=some j->j<c.size:=λi j q=>by have:=K.mem_iff.mp (g_ q);show wr.mp this
  show h (s.heap.objs.size+1) _ S (p.filterMap λj=>c[j]?) [s.heap.objs.size+1,a,s.heap.objs.size] (λi h'=>h'.get? (s.heap.objs.size+1)=some (ik (.ref s.heap.objs.size) i a c.size f)/\fY h' a c f t/\h'.get? s.heap.objs.size=some (lc (p.map λ(i:Nat)=>Value.int (i:Int) 0))) ?_ M (sf _) ?_ ?_ ?_ ?_
  ·have:=K.filterMap (λj=>c[j]?);rw[filterMap_getElem?_range]at this;show this
  ·rw[p_,hz];show wh _
  ·intro b g;simp only[so,o_,ML]at g;rcases g with rfl|rfl|rfl
   ·show .inr (sf _)
   ·show .inl ()
   ·show .inr (e_ _)
  ·have G:a≠s.heap.objs.size+1:=m3 (t_ ha);have R:∀(i:Nat)(j:Nat)(x:Int×Value),p[i]?=some j->c[j]?=some x->(p.filterMap λj=>c[j]?)[i]?=some x:=by
    have gen:∀(l:OO),(∀j∈l,j<c.size)->∀(i j:Nat)(x:Int×Value),l[i]?=some j->c[j]?=some x->(l.filterMap λj=>c[j]?)[i]?=some x:=by
     intro l
     induction l with|nil=>intro _ i j x hi _;simp at hi|cons y r ih=>intro g i j x hi m;have hy:c[y]?=some (c[y]'(g y mo)):=x_ _;rw[List.filterMap_cons_some hy];cases i with|zero=>simp only[List.getElem?_cons_zero,Ny]at hi⊢;subst hi;rw[hy]at m;show mu m|succ i=>simp only[List.getElem?_cons_succ]at hi⊢;show ih (λj J=>g j (j_ _ J)) i j x hi m
    intro i j x h1 h2;show gen p (λj J=>?_) i j x h1 h2;obtain⟨n,hn⟩:=iq.mp J;show P n j hn
   show{sub:=λb g=>?_,frame:=λi h1 h2 st k=>?_,item:=λi d N O W st q=>?_,done:=λd N O st q=>?_,self:=λi d N O st q=>?_}
   ·rw[List.mem_singleton.mp g];show mo
   ·show{k _ mo _ st.1,st.2.1.keep λo e=>k _ (j_ _ mo) _ e,k _ (j_ _ (j_ _ mo)) _ st.2.2}
   ·obtain⟨j,J⟩:∃j,p[i]?=some j:={p[i]'(by lia),il (by lia)};have aa:=P i j J;have m:c[j]?=some (c[j]'aa):=x_ _;show zK st.1 st.2.1 st.2.2 J m λh2 X b2=>?_;show q _ h2 d.toks {_,R i j _ J m,()} {X,st.2.1.keep λo e=>(b2.2 _ G).trans e,(b2.2 _ (m3 (wh _))).trans st.2.2} λb o g e=>(b2.2 b λz=>g (by rw[z];show List.mem_singleton.mpr ())).trans e
   ·show yz hh st.1 st.2.1 (.inr {_,p,(),st.2.2,MZ.mpr (by lia)}) λh2 Y=>?_;show q h2 d.toks λb o g e=>Y b o (λz=>g (by rw[z];show List.mem_singleton.mpr ())) e
   ·have ty:d.TypeIs (.ref (s.heap.objs.size+1)) "set_iterator":={_,st.1,()};show Oi ty sB (q_ sB ty nC ?_ (oS _));show f_ {_,(),"set_iterator",_,ty,g9.lookup,q}
  ·show{hg,L.keep λo e=>M _ _ e,c_ _ Z}
def EN(ty:s.TypeIs (.ref a) "set")(h:Q false s):wpAny (model prog w) A (Builtin.List.listLengthHint (.ref a)) Q E s:=by
 unfold Builtin.List.listLengthHint;show a_ (NU ty F.slot_set_len.lookup ?_);generalize c:("set.__len__":String)=nm
 wp_delta
 rw[show splitId nm=some ("set","__len__")from by subst c;decide+kernel];subst c;show a_ (NJ (T:="set") (b:=true) ty (by rw[N7];kernel_rfl) ?_);show vu (λz=>absurd z (by decide)) (λ_=>?_);show vu (λ_=>?_) (λz=>absurd (by decide+kernel) z);show a_ (Oh ty (f_ h))
def yY(hh:A.handled=none)(X:fY s.heap a l ep t)(hn:l.size<=sizeLine)(hl:w.params.followText "set-order"=false->t.led=true)(p:t.plain=true->gq t.place)(h:∀(h':Heap)(d':Drawn)(tk:Nat)(Z:OJ),Z.Perm (l.toList.map (·.2))->(∀b o,s.heap.get? b=some o->h'.get? b=some o)->s.heap.objs.size<=h'.objs.size->R Z {s with heap:=h',drawn:=d',toks:=tk}):wpAny (model prog w) A (collect (.ref a)) R E s:=by
 have L:a<s.heap.objs.size:=let⟨o,e,_⟩:=X.ob;j2 e;unfold collect;show a_ (wpAny_runValue (M0 F.entry_proto_collect ?_));rw[MW F.plain_proto_collect _];show a_ (m:=newList []) (rb ?_);show f_ {Nh F.plain_list_iadd _,M0 F.entry_list_iadd ?_};rw[MW F.plain_list_iadd _];have U:(s.heap.push {cls:=.type "list",data:=.seq ([]:OJ).toArray}).get? s.heap.objs.size=some {cls:=.type "list",data:=.seq #[]}:=h_ _ ();have g:fY (s.heap.push {cls:=.type "list",data:=.seq ([]:OJ).toArray}) a l ep t:=X.keep λo e=>c_ _ e;have j:(s.heap.push {cls:=.type "list",data:=.seq ([]:OJ).toArray}).objs.size=s.heap.objs.size+1:=p_ ..;have M:∀b o,s.heap.get? b=some o->(s.heap.push {cls:=.type "list",data:=.seq ([]:OJ).toArray}).get? b=some o:=λb o e=>c_ _ e;generalize s.heap.push {cls:=.type "list",data:=.seq ([]:OJ).toArray}=h0 at U g j M⊢;change wpAny _ A.in1 (Builtin.List.listExtendWith (.ref s.heap.objs.size) (.ref a) (.ref s.heap.objs.size)) _ _ {s with heap:=h0};unfold Builtin.List.listExtendWith;show a_ (Oh (T:="set") (s:={s with heap:=h0}) g.ty ?_);have ne:Builtin.List.listSameRef (.ref s.heap.objs.size) (.ref a)=false:=by simp[Builtin.List.listSameRef,op L]
 rw[iA (by rw[ne];decide)];show a_ (CH (s:={s with heap:=h0}) (A:=A.in1) hh g hn hl p λI h1 n ord fp St V H hI aa u W st=>?_);show a_ (qq (EN (s:={s with heap:=h1,drawn:=n}) (g.keep λo e=>H _ _ e).ty ?_));have N:=H _ _ U;have Y:ord.length=l.size:=by rw[V.length_eq,nB]
 have k:∀(h2:Heap)(c:Nat),St 0 h2->(∀b o,s.heap.get? b=some o->h2.get? b=some o)->h2.get? s.heap.objs.size=some {cls:=.type "list",dict:=none,data:=.seq #[] c,slots:=#[]}->codeAny (model prog w) A (.builtin "list.extend.loop" {[.ref s.heap.objs.size,.ref I,.ref s.heap.objs.size],[]}) (λr y=>∃v,r=.ok (.ret v)/\v=.ref s.heap.objs.size/\∃(h':Heap)(tk:Nat)(f:ON)(B:Nat),y={s with heap:=h',drawn:=n,toks:=tk}/\(∀b o,s.heap.get? b=some o->h'.get? b=some o)/\h'.get? s.heap.objs.size=some {cls:=.type "list",dict:=none,data:=.seq f B,slots:=#[]}/\f.toList.Perm (l.toList.map (·.2))) {s with heap:=h2,drawn:=n}:=by
  intro h2 c O k2 J;show codeAny_extend_loopS W.toS hn s.heap.objs.size (λhm=>?_) _ l.size 0 _ #[] c () (np _) O J (ItemsOf.nil _) λy d B K g' it=>?_
  ·rcases u _ hm with e|e
   ·show absurd e (op L)
   ·have:h0.objs.size<=s.heap.objs.size:=e;rw[j]at this;show absurd this (Nat.not_succ_le_self _)
  ·obtain⟨h3,P,d3,t3,o3⟩:=y;obtain rfl:P=s.gens:=K.gens;obtain rfl:d3=n:=K.drawn;obtain rfl:o3=s.os:=K.os;show{_,(),(),h3,t3,d,B,(),λb o e=>?_,g',?_}
   ·show K.heap b o (λhm=>?_) (k2 b o e);have C:b<s.heap.objs.size:=j2 e;rcases so.mp hm with z|z
    ·show absurd z (m3 C)
    ·rw[List.mem_singleton.mp z]at C;have:h0.objs.size<=I:=hI;rw[j]at this;show absurd (H_ C (Nat.lt_of_succ_le this)) (rV _)
   ·have e1:d.toList=ord.map (·.2):=by show J_ λi=>?_;rw[ig,y2];cases q:d[i]?with|some v=>obtain⟨x,hx,rfl⟩:=it.2 i v q;rw[hx];rfl|none=>have:d.size<=i:=Array.getElem?_eq_none_iff.mp q;rw[it.1]at this;rw[rm (by lia)];rfl
    rw[e1];show V.map _
 show vu (λ_=>?_) (λ_=>f_ {Nh F.plain_extend_loop _,MJ (k h1 0 st (λb o e=>H _ _ (M _ _ e)) N) λr y p=>?_})
 case refine_2=>obtain⟨v,rfl,rfl,h',tk,f,B,rfl,Q,D,S⟩:=p;show a_ (wpAny_load D (f_ (h h' n tk f.toList S Q (z4 (j2 D)))))
 show a_ (C2 (a_ ?_));change wpAny _ _ (updateSeq s.heap.objs.size (·.push .none)>>=λ_=>updateSeq s.heap.objs.size (·.pop)) _ _ _;show a_ (OA N () ?_);have J:=vr (Obj.mapSeq (·.push Value.none)) N ();show OA (hz:=by seq_fits) J () ?_;have P:=vr (Obj.mapSeq (·.pop)) J ();show f_ {Nh F.plain_extend_loop _,MJ (k _ _ (W.frame 0 _ _ st λb C o e=>?_) (λb o e=>?_) P) λr y p=>?_}
 ·have G:b≠s.heap.objs.size:=λz=>by
   rcases u _ C with q|q
   ·show absurd (z.symm.trans q) (op L)
   ·have:h0.objs.size<=b:=q;rw[j,z]at this;show absurd this (Nat.not_succ_le_self _)
  show(x3 _ _ (o8 G)).trans ((x3 _ _ (o8 G)).trans e)
 ·have G:b≠s.heap.objs.size:=m3 (j2 e);show(x3 _ _ (o8 G)).trans ((x3 _ _ (o8 G)).trans (H _ _ (M _ _ e)))
 ·obtain⟨v,rfl,rfl,h',tk,f,B,rfl,Q,D,S⟩:=p;show a_ (wpAny_load D (f_ (h h' n tk f.toList S Q (z4 (j2 D)))))
end
structure qL(led:Bool)(t:SetTable):Prop where
 led:t.led=led
 up:t.plain=true->gq t.place
def qL.off{led:Bool}{t:SetTable}(x:qL led t):qL led {t with plain:=false}:={x.led,λh=>by cases h}
def D4{t:SetTable}{j:Nat}(h:t.slot j=.empty\/t.slot j=.dummy):t.place[SetTable.below t.place j]?≠some j:=by intro e;unfold SetTable.slot at h;dsimp only at h;rw[i_ (by rw[e];simp)]at h;rcases h with h|h<;>cases h
theorem oH:∀(fuel:Nat)(p:SetTable.Probe)(j:Nat)(d:Option Nat),(∀x,p.dummy=some x->t.slot x=.dummy)->SetTable.probe.go t l h fuel p=some (.empty j d)->t.slot j=.empty/\∀x,d=some x->t.slot x=.dummy|0,p,j,d,c,e=>by unfold SetTable.probe.go at e;cases e|fuel+1,p,j,d,c,e=>by unfold SetTable.probe.go at e;cases a:t.slot p.j with
 |empty=>rw[a]at e;injection e with e;injection e with f g;subst f;subst g;show(a,c,)|dummy=>
   rw[a]at e;show oH fuel _ j d (λx b=>?_) e;have:(t.advance {p with dummy:=some p.j}).dummy=some p.j:=by
    unfold SetTable.advance
    split<;>rfl
   rw[this]at b;cases b;show a|live i=>
   rw[a]at e;dsimp only at e
   split at e
   ·cases e
   ·show oH fuel _ j d (λx b=>c x ?_) e;have:(t.advance p).dummy=p.dummy:=by
     unfold SetTable.advance
     split<;>rfl
    rw[this]at b;show b
def Ci{t:SetTable}{h:Int}{sl:Nat}{wd:Bool}(e:t.freeSlot h=some (sl,wd)):t.place[SetTable.below t.place sl]?≠some sl:=by unfold SetTable.freeSlot at e;cases a:t.probe (λ_=>h+1) h (t.probeStart h)with|none=>rw[a]at e;cases e|some m=>rw[a]at e;cases m with|candidate _ _ _=>cases e|empty j d=>have:=oH (10*SetTable.turns t.mask) (t.probeStart h) j d (λx b=>by cases b) a;injection e with e;injection e with c f;subst c;show D4 ?_;cases d with|none=>show .inl this.1|some x=>show .inr (this.2 x ())
def gd(a:Array Nat)(i:Nat):a.getD i 0=(a.toList[i]?).getD 0:=by rw[y2,Array.getD_eq_getD_getElem?]
def zz{l:OO}(h:l.Pairwise (·<·)):gq l.toArray:=by intro i j a b;rw[md]at b;have:=List.pairwise_iff_getElem.mp h i j (by lia) b a;rw[gd,gd];change(l[i]?).getD 0<(l[j]?).getD 0;rw[il b,il (show i<l.length by lia)];show this
def yM(c:p<=a.size):(SetTable.insertAt a p x).getD k 0=if k<p then a.getD k 0 else if k=p then x else if k<a.size+1 then a.getD (k-1) 0 else 0:=by
 have e:(SetTable.insertAt a p x).toList=a.toList.take p++x::a.toList.drop p:=by rw[SetTable.toList_insertAt]
 rw[gd,e];have b:(a.toList.take p).length=p:=by rw[oa,nB];lia
 by_cases h1:k<p
 ·rw[i_ h1,t6 (by lia),List.getElem?_take,i_ h1,gd]
 ·rw[iA h1,G_ (by lia),b]
  by_cases h2:k=p
  ·rw[i_ h2,h2,Nat.sub_self];rfl
  ·rw[iA h2];obtain⟨m,rfl⟩:∃m,k=p+(m+1):={k-p-1,by lia};rw[show p+(m+1)-p=m+1 by lia,List.getElem?_cons_succ,Oe]
   by_cases h3:p+(m+1)<a.size+1
   ·rw[i_ h3,gd,show p+(m+1)-1=p+m by lia]
   ·rw[iA h3,rm (by rw[nB];lia)];rfl
def EH(c:p<=a.size):(SetTable.insertAt a p x).size=a.size+1:=by rw[<-nB,(SetTable.insertAt_perm a p x).length_eq,nB,Array.size_push]
def BN{t:SetTable}{sl:Nat}(r:gq t.place)(h:t.place[SetTable.below t.place sl]?≠some sl):gq (t.put sl).1.place:=by
 obtain⟨b1,b2,b3⟩:=qK r sl;change gq (SetTable.insertAt t.place (SetTable.below t.place sl) sl);generalize SetTable.below t.place sl=p at h b1 b2 b3;have b4:∀k,p<=k->k<t.place.size->sl<t.place.getD k 0:=by
  intro k d a;have e:t.place[p]?=some (t.place.getD p 0):=by rw[x_ (by lia)];simp[Array.getD,show p<t.place.size by lia]
  have f:t.place.getD p 0≠sl:=λz=>h (by rw[e,z]);have h1:=b3 p (e_ _) (by lia);have h2:=r.le d a;lia
 intro i j b c;rw[EH b1]at c;rw[yM b1,yM b1]
 by_cases h1:j<p
 ·rw[i_ (by lia),i_ h1];show r i j b (by lia)
 ·rw[iA h1]
  by_cases h2:j=p
  ·rw[i_ h2,i_ (by lia)];show b2 i (by lia)
  ·rw[iA h2,i_ c]
   by_cases h3:i<p
   ·rw[i_ h3];have:=b2 i h3;have:=b4 (j-1) (by lia) (by lia);lia
   ·rw[iA h3]
    by_cases h4:i=p
    ·rw[i_ h4];show b4 (j-1) (by lia) (by lia)
    ·rw[iA h4,i_ (by lia)];show r (i-1) (j-1) (by lia) (by lia)
def qL.lay{led:Bool}{t:SetTable}(x:qL led t)(c:Array (Int×Value))(h:Int)(v:Value):qL led (layNew t c h v).2.1:=by
 show{(Io t c h v).1.trans x.led,?_};unfold layNew
 split
 ·rename_i sl wd e;intro a;dsimp only at a⊢;unfold SetTable.orStandIn at a⊢
  split
  ·rename_i b;rw[i_ b]at a;show BN (x.up a) (Ci e)
  ·rename_i b;rw[iA b]at a;cases a
 ·intro a;cases a
def qL.relay{led:Bool}{t:SetTable}(x:qL led t)(f:Array (Int×Value))(n:Nat):qL led (relayAll t f n).2.1:=by
 show{(CS t f n).1.trans x.led,?_};unfold relayAll
 split
 ·rename_i m o e;dsimp only
  split
  ·intro _;unfold SetTable.relaid SetTable.laid at e;cases hc:SetTable.layClean (SetTable.sizeAbove n-1) (f.map (·.1))with|none=>rw[hc]at e;cases e|some ow=>
    rw[hc]at e;cases e;change gq ((((List.range (SetTable.sizeAbove n-1+1)).filterMap λj=>(ow.getD j none).map (j,·)).map (·.1)).toArray);have l:(((List.range (SetTable.sizeAbove n-1+1)).filterMap λj=>(ow.getD j none).map (j,·)).map (·.1)).Pairwise (·<·):=by rw[List.map_filterMap];show List.Pairwise.filterMap _ (R:=(·<·)) (S:=(·<·)) ?_ List.pairwise_lt_range;intro a b g x c y d;cases i:ow.getD a none with|none=>rw[i]at c;cases c|some v=>cases k:ow.getD b none with|none=>rw[k]at d;cases d|some u=>rw[i]at c;rw[k]at d;cases c;cases d;show g
    show zz l
  ·intro h;cases h
 ·intro h;cases h
section
variable{prog:OK}{w:World}{c:Type}[DecidableEq c](knd:PySem.KeyKind prog w c)(kOf:Value->c)
structure jG(led:Bool)(h:Heap)(a:Addr)(ks:List c):Prop where ex:∃o es ep t,h.get? a=some o/\o.ExactSet/\o.data=.set es ep t/\ElemsOf knd es.toList/\(es.toList.map λe=>kOf e.2).Perm ks/\es.size<scanBound/\t.fits es.size=true/\qL led t
variable{knd kOf}
def jG.keep(x:jG knd kOf led h a f)(k:∀o,h.get? a=some o->h'.get? a=some o):jG knd kOf led h' a f:=by obtain⟨o,b,d,t,e,r⟩:=x.ex;show{o,b,d,t,k o e,r}
variable{A:Around}{E:OG}{s:Shared}
def Ek(g:∀k v,knd.is k v=true->kOf v=k)(f:ElemsOf knd h)(i:(h.map λe=>kOf e.2).Perm j)(k:c):k∈j↔∃e∈h,knd.is k e.2=true:=by
 rw[<-i.mem_iff,k_]
 constructor
 ·rintro⟨e,a,rfl⟩;obtain⟨⟨b,h1,_⟩,_⟩:=f e a;show{e,a,?_};rw[g b e.2 h1];show h1
 ·rintro⟨e,a,h1⟩;show{e,a,g k e.2 h1}
def sR{led:Bool}{h:Heap}{a:Addr}{o:Obj}{m f:Array (Int×Value)}{j:Nat}{t i:SetTable}{ks:List c}(n:h.get? a=some o)(hex:o.ExactSet)(hd:o.data=.set m j t)(l:ElemsOf knd f.toList)(p:(f.toList.map λe=>kOf e.2).Perm ks)(r:f.size<scanBound)(u:i.fits f.size=true)(v:qL led i):(h.update a (Obj.putSet f i)).get? a=some {o with data:=.set f (j+1) i}/\jG knd kOf led (h.update a (Obj.putSet f i)) a ks:=by
 have g:(h.update a (Obj.putSet f i)).get? a=some {o with data:=.set f (j+1) i}:=by
  have q:=vr (Obj.putSet f i) n (by rw[putSet_of f i hd];rfl)
  rwa[putSet_of f i hd]at q
 show{g,_,f,j+1,i,g,hex,(),l,p,r,u,v}
def Fu{led:Bool}{a:Addr}{f:List c}{k:c}{x:Value}{Q:Bool->Shared->Prop}(Z:∀k v,knd.is k v=true->kOf v=k)(i:knd.is k x=true)(y:x.scannable=true)(hS:jG knd kOf led s.heap a f)(G:f.length+1<scanBound)(h:∀h' b,Heap.SameBut a s.heap h'->jG knd kOf led h' a (if k∈f then f else f++[k])->Q b {s with heap:=h'}):wpAny (model prog w) A (setAddHashed a x (knd.hash k)) Q E s:=by
 obtain⟨o,D,ep,t,O,hex,hd,m,P,hb,Y,ti⟩:=hS.ex;have hn:D.size=f.length:=by rw[<-P.length_eq,b_,nB]
 have p:=Ek Z m P;unfold setAddHashed setAddHashedIn;show qq (a_ (MO O hd Y ?_));dsimp only;rw[byScan_of y hb m,i_ ()];unfold setAddByScan;show a_ (a_ (C2 (a_ (wpAny_setScan_of i O hd Y m ?_))));cases hr:List.findIdx? (λe=>knd.is k e.2) D.toList with|some j=>obtain⟨hj,R,_⟩:=List.findIdx?_eq_some_iff_getElem.mp hr;have B:k∈f:=(p k).mpr {_,Nf hj,R};show f_ (f_ ?_);have q:=h s.heap false (Heap.SameBut.refl a s.heap);rw[i_ B]at q;show q hS|none=>
  have B:k∉f:=λz=>by obtain⟨e,he,h1⟩:=(p k).mp z;have:=List.findIdx?_eq_none_iff.mp hr e he;rw[h1]at this;cases this
  dsimp only;have q:∀h' b,Heap.SameBut a s.heap h'->jG knd kOf led h' a (f++[k])->Q b {s with heap:=h'}:=λh' b sb x=>h h' b sb (by rw[iA B];show x);have F:=layNew_perm t D (knd.hash k) x;have H:=layNew_fits t D (knd.hash k) x;have I:=ti.lay D (knd.hash k) x;generalize hL:layNew t D (knd.hash k) x=L at F H I⊢;obtain⟨d,S,wd,gv⟩:=L;dsimp only at F H I⊢;rw[Oq]at F;have u:ElemsOf knd d.toList:=(m.push i y).perm F;have J:(d.toList.map λe=>kOf e.2).Perm (f++[k]):=by show(F.map _).trans ?_;rw[ir,Od,Z k x i];show P.append_right _
  have T:d.size=f.length+1:=by rw[<-nB,F.length_eq,j1,nB,hn];rfl
  have n:d.size<scanBound:=by rw[T];show G
  have say:∀(b:Bool)(U:Shared)(V:Unit->Shared->Prop),V Unit.unit U->wpAny (model prog w) A (match b with|true=>rule "set.scan.the-table-gave-way"|false=>pure Unit.unit) V E U:=λb U V z=>by cases b<;>first|show f_ z|show C2 z
  have l:∀g:SetTable,g.fits d.size=true->qL led g->wpAny (model prog w) A (do
 storeSet a d g if(!wd&&g.tooFull)=true then do
      (match(relayAll g d (SetTable.grown d.size)).2.2 with|true=>rule "set.scan.the-table-gave-way"|false=>pure Unit.unit)storeSet a (relayAll g d (SetTable.grown d.size)).1 (relayAll g d (SetTable.grown d.size)).2.1
      pure (some true)else pure (some true)) (λr s'=>wpAny (model prog w) A (match r with|some C=>pure C|none=>setAddHashedIn a x (knd.hash k) 99999) Q E s') E s:=by
   intro g f2 i2;show a_ (wpAny_storeSet_of O hd ?_ (fits_of_scanBound n));obtain⟨g1,S1⟩:=sR (knd:=knd) (kOf:=kOf) O hex hd u J n f2 i2;have K:=MF s.heap a (Obj.putSet d g);show vu (λ_=>?_) (λ_=>f_ (f_ (q _ _ K S1)));have M:=relayAll_perm g d (SetTable.grown d.size);have r2:=relayAll_fits g d (SetTable.grown d.size);have W:=i2.relay d (SetTable.grown d.size);generalize relayAll g d (SetTable.grown d.size)=Rl at M r2 W⊢;obtain⟨X,t3,aa⟩:=Rl;dsimp only at M r2 W⊢;have N:X.size=d.size:=by rw[<-nB,M.length_eq,nB]
   show a_ (say _ _ _ ?_);show a_ (wpAny_storeSet_of (s:={s with heap:=s.heap.update a (Obj.putSet d g)}) g1 () ?_ (fits_of_scanBound (by rw[N];show n)));obtain⟨_,S2⟩:=sR (knd:=knd) (kOf:=kOf) (ks:=f++[k]) g1 hex () (u.perm M) ((M.map _).trans J) (by rw[N];show n) r2 W;show f_ (f_ (q _ _ (K.trans (MF _ a _)) S2))
  show a_ (say _ _ _ ?_)
  split
  ·show a_ ?_;rw[hashByValue_scannable 8 y];show f_ ?_;cases ac:plainKind x with|true=>show l S H I|false=>show l {S with plain:=false} (SetTable.fits_plain_off H) I.off
  ·show a_ (f_ (l S H I))
end
end L2
namespace L2
open PySem PySem.Spec PyProof.Rows
section
variable{prog:OK}{w:World}{A:Around}{E:OG}{s:Shared}
def GN(v:Value)(h:Q₁ (.ref s.heap.objs.size) {s with heap:=s.heap.push (fV (!w.params.followText "set-order"))}):codeAny (model prog w) A (.call (.builtin "set.__new__") {[.type "set",v],[]}) (wants Q₁ E) s:=by show codeAny_of_tree (show wpAny _ A.in1 (do checkBuiltinCall "set.__new__" ⟨[.type "set",v],[]⟩;again (.builtin "set.__new__" ⟨[.type "set",v],[]⟩)) _ _ s from ?_);show a_ (wpAny_of_eq (F.newCall_set_1 v) (f_ {Nh F.plain_set_new _,M0 F.entry_set_new ?_}));rw[MW F.plain_set_new _];unfold Builtin.«set.__new__»Builtin.Frozenset.newClass;have a:=sub_set_self;obtain⟨b,g,d,tk,os⟩:=s;dsimp only;wp_walk;show MX (f_ ?_);dsimp only;simp only[newObj];show a_ (wpAny_alloc (f_ (f_ h)))
end
section
variable{prog:OK}{w:World}{A:Around}{R:Result->Shared->Prop}{c:Type}[DecidableEq c][BEq c][LawfulBEq c]{j a:Addr}{fp g:OP}{G:Array GenState->Array GenState->Prop}{n:Nat}{P:Nat->Value->Prop}{St:Nat->Shared->Prop}
def Co(l:List c)(x:c)[e:Decidable (x∈l)]:(if x∈l then l else l++[x])=step_dedup l x:=by
 unfold step_dedup
 by_cases h:x∈l
 ·have q:(l.any λy=>y==x)=true:=NP.mpr {x,h,MG x};rw[i_ h,i_ q]
 ·have q:¬(l.any λy=>y==x)=true:=λz=>h (by obtain⟨y,b,q⟩:=NP.mp z;rw[<-eq_of_beq q];show b);rw[iA h,iA q]
def Cj(l:PySem.KeyKind prog w c)(kOf:Value->c)(led:Bool)(I:∀k v,l.is k v=true->kOf v=k)(q:WalksS prog w A.in1 j fp g G n P St)(C:a∉fp)(h:Nat->c)(r:∀i v,P i v->l.is (h i) v=true/\v.scannable=true)(D:n+1<scanBound):∀(d i:Nat)(s:Shared),n-i=d->i<=n->St i s->jG l kOf led s.heap a (ui h i)->(∀p,Moved (a::g) G s p->jG l kOf led p.heap a (ui h n)->R (.ok (.ret .none)) p)->codeAny (model prog w) A (.builtin "set.update.loop" {[.ref a,.ref j],[]}) R s:=by
 have aw:a∉g:=λz=>C (q.sub _ z);have up:∀b∈g,b∈a::g:=λb z=>j_ _ z;intro d
 induction d with|zero=>
  intro i s hd hi st f k;obtain rfl:i=n:=by lia
  show M0 F.entry_set_update_loop ?_;rw[MW NQ _];show a_ (m:=pyNext (.ref j)) (q.done s _ _ st λp t=>?_);show f_ (k p (t.mono up) (f.keep λo e=>t.heap a o aw e))|succ d J=>
  intro i s hd hi st f k;have lt:i<n:=by lia
  show M0 F.entry_set_update_loop ?_;rw[MW NQ _];show a_ (m:=pyNext (.ref j)) (q.item i s _ _ lt st λv p Y u t=>?_);obtain⟨E,K⟩:=r i v Y;have L:jG l kOf led p.heap a (ui h i):=f.keep λo e=>t.heap a o aw e;show a_ (m:=holding [v] (setAdd a v)) (qq ?_);unfold setAdd;show qq (a_ (l.pyHash (k:=h i) E ?_));have M:(ui h i).length+1<scanBound:=by have:=Ej h i;lia
  show Fu (s:={p with toks:=p.toks+1}) I E K L M λh' O H f2=>?_;rw[Co,<-vN]at f2;show f_ {Nh NQ _,J (i+1) _ (by lia) lt (q.frame _ p _ _ u (sf _) λb z o e=>?_) f2 λx y N=>?_}
  ·show(H.2 b λB=>C (B▸z)).trans e
  ·show k x (Moved.trans q.gtrans ((t.mono up).then_heap (sf _) λb o z e=>?_) y) N;show(H.2 b λB=>z (B▸mo)).trans e
end
section
variable{prog:OK}{w:World}{A:Around}{E:OG}{s:Shared}{j:Type}[DecidableEq j][BEq j][LawfulBEq j]
set_option maxHeartbeats 3200000 in
def yJ{b:Bool}(n:PySem.KeyKind prog w j)(kOf:Value->j)(T:∀k v,n.is k v=true->kOf v=k){l:Addr}{m:ON}{key:Nat->j}{Q:OG}(hh:A.handled=none)(W:qb b s.heap l m)(y:∀i v,m[i]?=some v->n.is (key i) v=true/\v.scannable=true)(z:m.size+1<scanBound)(k:∀(h':Heap)(tk:Nat),jG n kOf (!w.params.followText "set-order") h' s.heap.objs.size (ui key m.size)->(∀b o,s.heap.get? b=some o->h'.get? b=some o)->Q (.ref s.heap.objs.size) {s with heap:=h',toks:=tk}):wpAny (model prog w) A (call (.type "set") [.ref l]) Q E s:=by
 obtain⟨c,tl,L⟩:=F.called_set.mro;have made:=F.called_set.made;have sub:=F.called_set.sub;have nt:=F.called_set.notType;have cc:=F.called_set.canCreate;have tc:=F.typeCall_set_1 (.ref l);show wpAny_call (codeAny_of_tree ?_);change wpAny _ _ (callAny (.type "set") _) _ _ _;show f_ {Code.quiet_builtin _ (by decide+kernel),M0 F.entry_type_call ?_};rw[Around.under_plain (weight_type_call_type "set" [.ref l] []) ()]
 (repeat(any_goals(first|assumption|wp_step)));skip
 show MJ (GN (.ref l) (E:=E) (Q₁:=λu s₁=>u=.ref s.heap.objs.size/\s₁={s with heap:=s.heap.push (fV (!w.params.followText "set-order"))}) {(),()}) λr s₁ G=>?_;cases r with|error e=>show G|ok U=>cases U with
 |ret u=>
   obtain⟨rfl,rfl⟩:=G;have N:(s.heap.push (fV (!w.params.followText "set-order"))).get? s.heap.objs.size=some (fV (!w.params.followText "set-order")):=h_ _ ();have ty:Shared.TypeIs {s with heap:=s.heap.push (fV (!w.params.followText "set-order"))} (.ref s.heap.objs.size) "set":={_,N,()};have li:=F.called_set.init.lookup;have bi:=F.called_set.init.bind (.ref s.heap.objs.size)
   (repeat(any_goals(first|assumption|wp_step)));skip
   show MJ (codeAny_call_builtin (R:=wants (λr p=>r=.none/\∃h' tk,p={s with heap:=h',toks:=tk}/\jG n kOf (!w.params.followText "set-order") h' s.heap.objs.size (ui key m.size)/\∀b o,s.heap.get? b=some o->h'.get? b=some o) E) F.called_set.init.plain F.entry_set_init (check_set_init_1 ty ?_)) λB p d=>?_
   ·obtain⟨⟨cl,V,dt,sl⟩,e,O,P,S⟩:=id W;simp only at O S;subst O;subst S;have X:(s.heap.push (fV (!w.params.followText "set-order"))).get? l=some {cls:=.type (cond b "list" "tuple"),dict:=V,data:=.seq m P,slots:=sl}:=c_ _ e;have s1:isSubtype (.type (cond b "list" "tuple")) (.type "set")=pure false:=by cases b;show F.sub_tuple_set;show F.sub_list_set
    have s2:isSubtype (.type (cond b "list" "tuple")) (.type "frozenset")=pure false:=by cases b;show F.sub_tuple_frozenset;show F.sub_list_frozenset
    have ne:(Value.type (cond b "list" "tuple")==Value.type "dict")=false:=by cases b<;>decide
    have C:qb b (s.heap.push (fV (!w.params.followText "set-order"))) l m:={_,X,(),P,()};have Y:∀(A:Around)(I t:Addr),A.handled=none->t≠I->Walks prog w A I [I,t] [I] m.size (λi v=>m[i]?=some v) (λi h=>qS b h I t i/\qb b h t m):=by
     cases b
     ·showλA I t q r=>Walks.tuple q I t r m
     ·showλA I t q r=>Walks.list q I t r m
    unfold Builtin.«set.__init__»noKeywords Builtin.Frozenset.updateFrom;generalize H:pyIter=PI;wp_walk;subst H;show AC C ?_;show a_ (wpAny_runValue ?_);have lt:l<s.heap.objs.size:=j2 e;have sz:(s.heap.push (fV (!w.params.followText "set-order"))).objs.size=s.heap.objs.size+1:=p_ ..;show Cj n kOf (!w.params.followText "set-order") T ((Y A.in1.in1.in1 _ l (by simp[hh]) (by rw[sz];show m3 (t_ lt))).toS) (a:=s.heap.objs.size) (by rw[sz];simp only[so,o_,ML,not_or];show{m3 (wh _),op lt}) key y z (m.size-0) 0 _ (by omega) (np _) {{_,h_ _ (),(),()},C.at λ_ e=>c_ _ e} ?f0 ?fR
    case f0=>have g:((s.heap.push (fV (!w.params.followText "set-order"))).push {cls:=.type (cond b "list_iterator" "tuple_iterator"),data:=.fields #[.ref l,.int 0 0]}).get? s.heap.objs.size=some (fV (!w.params.followText "set-order")):=c_ _ N;show{_,#[],0,_,g,{(),(),()},(),λe Z=>by simp at Z,N_ _,by decide,by rfl,{(),λ_=>gq.few (np _)}}
    case fR=>rintro⟨h',g',d',J,K⟩D f;obtain rfl:g'=s.gens:=D.gens;obtain rfl:d'=s.drawn:=D.drawn;obtain rfl:K=s.os:=D.os;change wpAny _ _ _ _ _ _;show f_ (show wpAny _ _ (ret Value.none) _ _ _ from f_ {(),h',J,(),f,λb o q=>?_});have b1:b<s.heap.objs.size:=j2 q;show D.heap b o (by rw[sz];simp only[so,o_,ML,not_or];show{m3 b1,m3 (t_ b1)}) (c_ _ (c_ _ q))
   ·cases B with|error e=>show d|ok x=>cases x with|ret r=>
      obtain⟨rfl,h',tk,rfl,f,kk⟩:=d
      (repeat(any_goals(first|assumption|wp_step)));show k _ _ f kk|_=>show d.elim
  |_=>show G.elim
end
section
variable{prog:OK}{w:World}{A:Around}{E:OG}{s:Shared}
def Dr(hh:A.handled=none)(l:fY s.heap a i y t)(hn:i.size<=sizeLine)(n:w.params.followText "set-order"=false->t.led=true)(p:t.plain=true->gq t.place)(h:∀(h1:Heap)(f:Drawn)(tk:Nat)(c:OJ),c.Perm (i.toList.map (·.2))->(∀b o,s.heap.get? b=some o->h1.get? b=some o)->s.heap.objs.size<=h1.objs.size->(h1.push (seqObj "list" c.toArray 0)).get? h1.objs.size=some (seqObj "list" c.toArray 0)->wpAny (model prog w) A.in1.in1 (Builtin.«list.sort» {[.ref h1.objs.size],[]}) (λfin j=>∃v,fin=.done (.ret v)/\Q (.ref h1.objs.size) j) E {s with heap:=h1.push (seqObj "list" c.toArray 0),drawn:=f,toks:=tk}):wpAny (model prog w) A (call (.builtin "sorted") [.ref a]) Q E s:=by
 show Calls.call_function_entry kind_sorted plain_sorted entry_sorted (args_sorted1 _) ?_;unfold Builtin.«sorted»;show a_ (m:=checkCount "sorted" 1 1 _) (f_ ?_);show a_ (yY (A:=A.in1) hh l hn n p λh1 f tk c d k r=>?_);have u:c.length=i.size:=by rw[d.length_eq,b_,nB]
 show a_ (wpAny_newList ?_ (by rw[u];show hn));have g:(h1.push (seqObj "list" c.toArray 0)).get? h1.objs.size=some (seqObj "list" c.toArray 0):=h_ _ ();show a_ (qq (q_ slot_list_sort (s:={s with heap:=h1.push (seqObj "list" c.toArray 0),drawn:=f,toks:=tk}) {_,g,()} entry_list_sort (wpAny_mono (h h1 f tk c d k r g) (λfin j x=>?_) λ_ _ e=>e) (args_list_sort _)));obtain⟨v,rfl,q⟩:=x;show{v,(),f_ {_,(),q}}
def yO{h1:Heap}{vs:OJ}{out:ON}:(∀b o,h1.get? b=some o->(sortedHeap (h1.push (seqObj "list" vs.toArray 0)) h1.objs.size vs out).get? b=some o)/\∃e,(sortedHeap (h1.push (seqObj "list" vs.toArray 0)) h1.objs.size vs out).get? h1.objs.size=some (seqObj "list" out e):=by have g:(h1.push (seqObj "list" vs.toArray 0)).get? h1.objs.size=some (seqObj "list" vs.toArray 0):=h_ _ ();show{λb o e=>?_,sortedHeap_at g};have a:b<h1.objs.size:=j2 e;rw[sortedHeap_old (m3 a) (by rw[p_];show t_ a)];show c_ _ e
end
def kOf:Value->bK|.int i _=>.inl i|.str x _=>.inr x|_=>.inl 0
def EE(P:OK)(w:World):∀(k:bK)(v:Value),(aV P w).is k v=true->kOf v=k:=λk v h=>by rcases cJ h with⟨i,t,rfl,rfl⟩|⟨x,t,rfl,rfl⟩<;>rfl
abbrev wF(P:OK)(w:World)(q:Addr)(a:List bK):HO:=.ext λh=>jG (aV P w) kOf (!w.params.followText "set-order") h q a
theorem aN.drawn(I:aN X a c H s)(d:Drawn):aN X a c H {s with drawn:=d}:=(I.ok,I.os,I.bare,I.base,I.loc,I.cell,I.free,I.freeC,I.pin,I.hok,I.len,)
theorem vw:∀{a:OJ}{c:OL},StrsAre a c->be (c.map V.str) a|_,_,.nil=>.nil|_,_,.cons x t h=>.cons {t,()} (vw h)
def Hx(b:Bool)(K:OF)(H:Hp)(p:Addr)(a:List V):Prop:=cond b (aW K H p a) (aS K H p a)
def aN.sqE{X:Cx}{c:OH}{g:St}{H:Hp}{s:Shared}{b:Bool}{p:Addr}{f:List V}(I:aN X c g H s)(h:Hx b X.K H p f):∃a,be f a/\qb b s.heap p a.toArray/\∀e,Hx b X.K H p e->e=f:=by cases b with|false=>obtain⟨a,d,p,_⟩:=I.tuple h;show{a,d,p,λe q=>I.tuple_inj q h}|true=>obtain⟨a,d,p,_⟩:=I.list h;show{a,d,p.isList,λe q=>I.list_inj q h}
section
variable{X:Cx}
def wf{b:Bool}(hc:X.calm=true):dG X (.type "set") (λj H Q=>∃(p:Addr)(a:List bK),j=[.ref p]/\Hx b X.K H p (a.map kV)/\a.length<4000/\∀q,H q=none->Q (.ref q) (aH H q (wF X.prog X.w q (dd a)))):=by
 intro k s C H j D Q I r h;obtain⟨p,a,rfl,t,l,q⟩:=h;obtain⟨u,rfl,y⟩:=k9 r;cases y;obtain⟨c,m,pl,E⟩:=I.sqE t;have n:=m.length;rw[b_]at n;show yJ (aV X.prog X.w) kOf (EE _ _) (key:=λi=>a.getD i (.inl 0)) (I.ok.hd hc) pl (λi v d=>?_) (by rw[md];unfold scanBound;omega) λh' tk f A=>?_
 ·have d:c[i]?=some v:=by simpa using d
  have hi:i<c.length:=(d_.mp d).1;obtain⟨u,h1,h2⟩:=m.get (i:=i) (x:=kV (a[i]'(by lia))) (by rw[ig,il (by lia)];rfl);rw[d]at h1;cases h1;have e:a.getD i (.inl 0)=a[i]'(by lia):=by simp[List.getD,il (show i<a.length by lia)]
  change(aV X.prog X.w).is (a.getD i (.inl 0)) v=true/\_;rw[e,zO];show G1 h2
 ·rw[show c.toArray.size=a.length by rw[md];show n.symm,GR]at f;show{.ref s.heap.objs.size,_,I.laid (h':=h') (t':=tk) (o:=wF X.prog X.w s.heap.objs.size (dd a)) A (e_ _) {f,?_,λh1 h2 g B=>g.keep B},(),q _ (I.hok.fresh (e_ _))};obtain⟨o,_,_,_,e,_⟩:=f.ex;show(o,e,)
def Cu:dG X (.builtin "len") (λc H Q=>∃(p:Addr)(a:List bK),c=[.ref p]/\H p=some (wF X.prog X.w p a)/\a.length<=4096/\Q (.int a.length) H):=by
 intro b s l H c m Q I r h;obtain⟨p,a,rfl,d,hn,q⟩:=h;obtain⟨u,rfl,g⟩:=k9 r;cases g;obtain⟨f,_,_⟩:=I.hok p _ d;obtain⟨o,i,n,t,e,ex,hd,_,pm,_,j,_⟩:=f.ex;have k:i.size=a.length:=by rw[<-pm.length_eq,b_,nB]
 show call_len_set e ex hd j (by omega) {.int _,H,I.tok _,{_,()},?_};rw[k];show q
def IW(f:jG (aV P w) kOf led h a i):∃c g t,fY h a c g t/\c.size=i.length/\(c.toList.map λe=>kOf e.2).Perm i/\qL led t/\∀e∈c.toList,nX (kOf e.2) e.2=true:=by obtain⟨o,c,g,t,e,ex,hd,b,pm,_,d,j⟩:=f.ex;show{c,g,t,{(o,e,ex.1,hd,),d},by rw[<-pm.length_eq,b_,nB],pm,j,λx l=>?_};obtain⟨⟨k,h1,_⟩,_⟩:=b x l;rw[EE P w k x.2 h1];show h1
variable{P:OK}{w:World}
def uw(K:OF)(c:X.K=K)(hc:X.calm=true)(e:X.prog=P:=by rfl)(f:X.w=w:=by rfl):dG X (.type "set") (λg H Q=>∃(p:Addr)(a:List bK),g=[.ref p]/\aW K H p (a.map kV)/\a.length<4000/\∀q,H q=none->Q (.ref q) (aH H q (wF P w q (dd a)))):=by subst c;subst e;subst f;show wf (b:=true) hc
def Ak(K:OF)(c:X.K=K)(hc:X.calm=true)(e:X.prog=P:=by rfl)(f:X.w=w:=by rfl):dG X (.type "set") (λg H Q=>∃(p:Addr)(a:List bK),g=[.ref p]/\aS K H p (a.map kV)/\a.length<4000/\∀q,H q=none->Q (.ref q) (aH H q (wF P w q (dd a)))):=by subst c;subst e;subst f;show wf (b:=false) hc
def uy(c:X.prog=P:=by rfl)(e:X.w=w:=by rfl):dG X (.builtin "len") (λf H Q=>∃(p:Addr)(a:List bK),f=[.ref p]/\H p=some (wF P w p a)/\a.length<=4096/\Q (.int a.length) H):=by subst c;subst e;show Cu
end
section
variable{prog:OK}{w:World}{A:Around}{E:OG}{s:Shared}
def ny(a b:Str):Prop:=¬b.cps.toList<a.cps.toList
def uR(g:StrsAre f v)(h:a.Perm (pairsOf f))(n:SortedToK strKind a (pairsOf f).size):∃c,StrsAre (a.map (·.2)).toList c/\c.Perm v/\c.Pairwise ny:=by
 obtain⟨o,h1,h2,_⟩:=sorted_out_str g h n;show{o,h1,h2,?_};have z:a.toList.Perm (f.zip f):=by rw[<-pairsOf_toList];show Array.perm_iff_toList_perm.mp h
 have b:∀p,p∈a.toList->p.1=p.2/\p.1∈f:=λp k=>mem_zip_self (z.mem_iff.mp k);have e:o=a.toList.map λp=>strOf p.2:=by rw[<-h1.strs,Array.toList_map,s_];rfl
 rw[e,List.pairwise_iff_getElem];intro i j hi B l;have m:i<a.size:=by simpa using hi
 have d:j<a.size:=by simpa using B
 have q:=n i j (z4 l) (by rw[<-h.size_eq];show d);obtain⟨x,t,ex⟩:=g.all _ (b a[i] (by simp)).2;obtain⟨y,u,r⟩:=g.all _ (b a[j] (by simp)).2;rw[KK_str m (x:=x) (t:=t) (q:=a[i].2) (Prod.ext ex ()),KK_str d (x:=y) (t:=u) (q:=a[j].2) (Prod.ext r ())]at q
 change decide (y.cps.toList<x.cps.toList)=false at q
 simp only[Ox,Array.getElem_toList];have C:strOf a[i].2=x:=by rw[<-(b a[i] (by simp)).1,ex];rfl
 have D:strOf a[j].2=y:=by rw[<-(b a[j] (by simp)).1,r];rfl
 unfold ny;rw[C,D];show of_decide_eq_false q
def sU(hh:A.handled=none)(r:fY s.heap a f P t)(u:f.size<64)(y:w.params.followText "set-order"=false->t.led=true)(B:t.plain=true->gq t.place)(C:∀e∈f.toList,∃x t,e.2=Value.str x t)(h:∀(D:Addr)(h':Heap)(F:Drawn)(tk e:Nat)(out:OJ)(i:OL),s.heap.objs.size<=D->(∀b o,s.heap.get? b=some o->h'.get? b=some o)->h'.get? D=some (seqObj "list" out.toArray e)->StrsAre out i->i.Perm (f.toList.map λe=>strOf e.2)->i.Pairwise ny->Q (.ref D) {s with heap:=h',drawn:=F,toks:=tk}):wpAny (model prog w) A (call (.builtin "sorted") [.ref a]) Q E s:=by
 show Dr hh r (by rw[ji];lia) y B λh1 G tk c j H I g=>?_;have R:c.length=f.size:=by rw[j.length_eq,b_,nB]
 have k:StrsAre c (c.map strOf):=strsAre_map c λv hm=>by obtain⟨e,J,rfl⟩:=k_.mp (j.mem_iff.mp hm);show C e J
 show list_sort_treeK strKind_oneLt g k.keysOf (λp q qp e=>keyKind_strs (by rw[<-e];show k)) (by lia) λd l m=>{_,(),?_};obtain⟨n,K,L,M⟩:=uR k l m;obtain⟨N,e,O⟩:=yO (h1:=h1) (vs:=c) (out:=(arrOf d).map (·.2));show h h1.objs.size _ G tk e ((arrOf d).map (·.2)).toList n I (λb o z=>N b o (H b o z)) ?_ K (L.trans ?_) M
 ·rw[Array.toArray_toList];show O
 ·have:=j.map strOf;rw[s_]at this;show this
end
section
variable{X:Cx}
def y7(hc:X.calm=true):dG X (.builtin "sorted") (λj H Q=>∃(p:Addr)(a:OL),j=[.ref p]/\H p=some (wF X.prog X.w p (a.map Sum.inr))/\a.length<64/\∀(q:Addr)(c:OL),H q=none->c.Perm a->c.Pairwise ny->Q (.ref q) (aH H q (.lst (c.map V.str)))):=by
 intro l s N H j O Q I r h;obtain⟨p,a,rfl,C,hn,q⟩:=h;obtain⟨u,rfl,E⟩:=k9 r;cases E;obtain⟨f,_,_⟩:=I.hok p _ C;obtain⟨m,P,t,F,n,pm,v,G⟩:=IW f;rw[b_]at n;have A:∀e∈m.toList,∃x t,e.2=Value.str x t:=λe d=>by
  have hm:kOf e.2∈a.map Sum.inr:=pm.mem_iff.mp (k_.mpr {e,d,()});obtain⟨x,_,b⟩:=k_.mp hm;rcases cJ (G e d)with⟨i,t,h1,h2⟩|⟨y,t,h1,h2⟩
  ·rw[h1]at b;cases b
  ·show(y,t,h2,)
 show sU (I.ok.hd hc) F (by lia) (λz=>by rw[v.led,z];rfl) v.up A λD h' J tk e out c B K g sa sp L=>?_;have sl:c.length=a.length:=by rw[sp.length_eq,b_,nB,n]
 have ex:(m.toList.map λe=>strOf e.2).Perm a:=by
  have h1:=pm.map (λk:bK=>match k with|.inr x=>x|.inl _=>({#[]}:Str));rw[s_,s_]at h1;have M:(a.map ((λk:bK=>match k with|.inr x=>x|.inl _=>({#[]}:Str))∘Sum.inr))=a:=by rw[show((λk:bK=>match k with|.inr x=>x|.inl _=>({#[]}:Str))∘Sum.inr)=id from (),Oz]
  rw[M]at h1;show(OD (E2 λe d=>?_)).trans h1;obtain⟨x,t,b⟩:=A e d;rw[b];change strOf (Value.str x t)=(match kOf e.2 with|.inr x=>x|.inl _=>({#[]}:Str));rw[b];rfl
 show{.ref D,_,(I.drawn J).laid (h':=h') (t':=tk) (o:=.lst (c.map V.str)) K B {?_,out,e,vw sa,g},(),q D c (I.hok.fresh B) (sp.trans ex) L};rw[b_,sl,ji];lia
def xk(hc:X.calm=true)(e:X.prog=P:=by rfl)(f:X.w=w:=by rfl):dG X (.builtin "sorted") (λg H Q=>∃(p:Addr)(a:OL),g=[.ref p]/\H p=some (wF P w p (a.map Sum.inr))/\a.length<64/\∀(q:Addr)(c:OL),H q=none->c.Perm a->c.Pairwise ny->Q (.ref q) (aH H q (.lst (c.map V.str)))):=by subst e;subst f;show y7 hc
end
end L2
namespace L2
open PySem PySem.W PyProof.Rows
def oN(P:OK)(w:World):zi:=λouter H s E e a=>∃(d:Addr)(C:Value)(B:Heap)(t:Addr)(c:Hp),e=.ref d/\a.os=s.os/\AllBare a.gens/\Un (jU outer) [] H c s.heap a.heap/\lG P w c a.heap/\Heap.FlyingW B outer d C (.ref t) a.heap/\(∀b o,c b=some o->∃u,B.get? b=some u)/\(∀b o,s.heap.get? b=some o->b∉jU outer->∃u,B.get? b=some u)/\E C none c
def yP(h:env.frame=some L):jU (env::l)=L::jU l:=by unfold jU;rw[t8,h]
def lG.flown{P:OK}{w:World}{H:Hp}{h h' B:Heap}(x:lG P w H h)(c:∀b o,H b=some o->∃u,B.get? b=some u)(k:B.StaysIn h)(l:B.StaysIn h'):lG P w H h':=λa o e=>(x a o e).stay (λb u d q=>by
  obtain⟨f,g⟩:∃f,H b=some f:=by
   rcases d with rfl|d
   ·show{_,e}
   ·show{_,d}
  obtain⟨v,i⟩:=c b f g;have j:=k b v i;rw[q]at j;cases j;show l b _ i) (λ_ q=>q) λ_ _ q=>q
section
variable{P:OK}{w:World}{K:OF}{mg:OI}{base:Heap}{N:OL}{a:Str}{scope:Scope}{f:Addr}{cd:Value}{A:Around}{outer:List Env}{c:Shared}{g:Hp}{E:XK}
def bS:mG (oN P w) (qF (oN P w) P w K mg base N a scope f cd A outer c g E) E:=by
 rintro O X H s e G I⟨J,C,B,t,Q,rfl,os,bare,un,hok,r,m,h,q⟩;have v:(envOfC a scope c.heap.objs.size f cd).frame=some c.heap.objs.size:=();have x:jU (envOfC a scope c.heap.objs.size f cd::outer)=c.heap.objs.size::jU outer:=yP v;have j:Un (jU outer) [] g H c.heap s.heap:=I.base;have un:Un (jU (envOfC a scope c.heap.objs.size f cd::outer)) [] H Q s.heap G.heap:=un;have h:∀b o,s.heap.get? b=some o->b∉jU (envOfC a scope c.heap.objs.size f cd::outer)->∃u,B.get? b=some u:=h;have r:Heap.FlyingW B (envOfC a scope c.heap.objs.size f cd::outer) J C (.ref t) G.heap:=r;have y:∀b o,c.heap.get? b=some o->b∉jU outer->b∉jU (envOfC a scope c.heap.objs.size f cd::outer):=λb o e d hm=>by
  rw[x]at hm;rcases so.mp hm with rfl|hm
  ·show absurd (j2 e) (rV _)
  ·show d hm
 have p:∀b o,c.heap.get? b=some o->b∉jU outer->∃u,B.get? b=some u:=λb o e d=>by obtain⟨L,i⟩:=j.there b o e (by simp);show h b L i (y b o e d)
 change wpAny (model P w) (A.deeper (envOfC a scope c.heap.objs.size f cd)) (leaving (envOfC a scope c.heap.objs.size f cd) (.ref J)) _ _ G;show wpAny_leaves_onW (outer:=outer) I.ok.frames v r λh' k up=>?_;show{J,C,B,t,Q,(),os.trans I.os,bare,?_,hok.flown m r.1 k.1,k,m,p,q};have slot:∀b o,c.heap.get? b=some o->g b=none->b∈jU outer->∃sl,h'.get? b=some {o with slots:=sl}:=λb o e n d=>by
  obtain⟨sl,i⟩:=j.slot b o e n d (by simp);have n1:=j.free b o e n (by simp);obtain⟨T,z⟩:=un.slot b _ i n1 (by rw[x];show j_ _ d) (by simp);obtain⟨_,R,l,hd⟩:=I.ok.funs.mem d;have:R=o:=by have l:c.heap.get? b=some R:=l;rw[e]at l;show(mu l).symm
  subst this;obtain⟨M,D⟩:=up b _ z hd;show(M,D,)
 show{λb o e n d _=>?_,λb o e n d _=>slot b o e n d,λb o e n _=>?_,λb o e _=>?_,λb S e=>un.tups b S (j.tups b S e),λb o u e=>un.frzs b o u (j.frzs b o u e),λb U e=>?_}
 ·have i:=j.keep b o e n d (by simp);have n1:=j.free b o e n (by simp);have z:=un.keep b o i n1 (y b o e d) (by simp);obtain⟨u,F⟩:=p b o e d;have D:=r.1 b u F;rw[z]at D;cases D;show k.1 b _ F
 ·obtain⟨L,i⟩:=j.there b o e (by simp);show un.free b L i (j.free b o e n (by simp)) (by simp)
 ·by_cases d:b∈jU outer
  ·have n:g b=none:=I.ok.frf b d;obtain⟨sl,i⟩:=slot b o e n d;show{_,i}
  ·obtain⟨u,F⟩:=p b o e d;show{u,k.1 b u F}
 ·obtain⟨V,i⟩:=j.tbls b U e;obtain⟨W,z⟩:=un.tbls b _ i;show{V++W,by rw[z,Array.append_assoc]}
end
def c8.held{P:OK}{w:World}{H:Hp}{h:Heap}{a:Addr}{o:HO}(x:c8 P w H h a o):∃u,h.get? a=some u:=by cases o with|lst c=>obtain⟨_,_,_,_,e⟩:=x;show{_,e}|tup c=>obtain⟨_,_,_,_,e,_⟩:=x;show{_,e}|dK b=>obtain⟨_,_,_,_,o,_,_,e,_⟩:=x;show{_,e}|dT b=>obtain⟨_,_,_,_,o,_,_,e,_⟩:=x;show{_,e}|set S n=>obtain⟨o,_,_,_,e,_⟩:=x;show{_,e}|ins C dx fs=>obtain⟨_,_,_,e,_⟩:=x;show{_,e}|own y=>show x|xd fs=>obtain⟨_,⟨_,_,_,e,_⟩,_⟩:=x;show{_,e}|rng lo hi=>obtain⟨_,_,_,e⟩:=x;show{_,e}|frz ob u=>show{_,x.1}|tbl d=>show{_,(show h.get? a=some _ from x)}|met f y=>show{_,(show h.get? a=some _ from x)}|ext φ=>show x.2.1
def Fx(X:Cx)(E:XK):Prop:=∀(a:OH)(c:St)(H:Hp)(s:Shared)(C:Value)(d:OJ)(h':Heap)(b:Addr),aN X a c H s->Heap.MadeExcOf s.heap h' b C d->E C none H->X.xe (.ref b) {s with heap:=h'}
section
variable{P:OK}{w:World}{K:OF}{mg:OI}{base:Heap}{N:OL}{a:Str}{scope:Scope}{f:Addr}{cd:Value}{A:Around}{outer:List Env}{c:Shared}{g:Hp}{E:XK}
def eF:Fx (qF (oN P w) P w K mg base N a scope f cd A outer c g E) E:=by
 intro L V H s C W h' M I O q;have m:(envOfC a scope c.heap.objs.size f cd).frame=some c.heap.objs.size:=();have z:jU (envOfC a scope c.heap.objs.size f cd::outer)=c.heap.objs.size::jU outer:=yP m;have k:Un (jU outer) [] g H c.heap s.heap:=I.base;have p:∀b o,c.heap.get? b=some o->b∉jU outer->b∉jU (envOfC a scope c.heap.objs.size f cd::outer):=λb o e d hm=>by
  rw[z]at hm;rcases so.mp hm with rfl|hm
  ·show absurd (j2 e) (rV _)
  ·show d hm
 generalize D:hideAll s.heap (jU (envOfC a scope c.heap.objs.size f cd::outer))=B;have l:∀{b o},s.heap.get? b=some o->b∉jU (envOfC a scope c.heap.objs.size f cd::outer)->B.get? b=some o:=λe d=>by rw[<-D];show hideAll_get _ e d
 have r:B.StaysIn s.heap:=λb o e=>by rw[<-D]at e;show of_hideAll _ e
 have fr:s.heap.FunFrames B (envOfC a scope c.heap.objs.size f cd::outer):=by rw[<-D];show funFrames_hide (base:=base) I.stack λenv R b d=>List.mem_filterMap.mpr (env,R,d,)
 have v:∀b o,c.heap.get? b=some o->b∉jU outer->∃u,B.get? b=some u:=λb o e d=>by obtain⟨S,x⟩:=k.there b o e (by simp);show{S,l x (p b o e d)}
 have j:∀b o,H b=some o->∃u,B.get? b=some u:=λb o e=>by obtain⟨u,F⟩:=(I.hok b o e).held;show{u,l F λhm=>by have n:H b=none:=I.stkFree b hm;rw[e]at n;cases n}
 change wpAny (model P w) (A.deeper (envOfC a scope c.heap.objs.size f cd)) (leaving (envOfC a scope c.heap.objs.size f cd) (.ref M)) _ _ _;show wpAny_leaves_madeW (outer:=outer) (h:=s.heap) I.ok.frames m r fr O λG t y tup _ up=>?_;show{M,C,B,t,H,(),I.os,I.bare,?_,I.hok.flown j r y.1,y,j,v,q};have slot:∀b o,c.heap.get? b=some o->g b=none->b∈jU outer->∃sl,G.get? b=some {o with slots:=sl}:=λb o e n d=>by
  obtain⟨sl,x⟩:=k.slot b o e n d (by simp);have T:=O.keeps _ _ x;obtain⟨_,Q,i,hd⟩:=I.ok.funs.mem d;have:Q=o:=by have i:c.heap.get? b=some Q:=i;rw[e]at i;show(mu i).symm
  subst this;obtain⟨J,U⟩:=up b _ T hd;show(J,U,)
 show{λb o e n d _=>?_,λb o e n d _=>slot b o e n d,λb o e n _=>k.free b o e n (by simp),λb o e _=>?_,k.tups,k.frzs,k.tbls}
 ·show y.1 b o (l (k.keep b o e n d (by simp)) (p b o e d))
 ·by_cases d:b∈jU outer
  ·obtain⟨sl,x⟩:=slot b o e (I.ok.frf b d) d;show{_,x}
  ·obtain⟨u,F⟩:=v b o e d;show{u,y.1 b u F}
end
def wA:List Value:=[.type "ValueError",.type "Exception",.type "BaseException",.type "object"]
def vm(K:OF)(C:Addr):Prop:=excIn K C wA "ValueError.__new__"=true
theorem vm.at{K:OF}{C:Addr}{h:Heap}(kin:K.In h)(x:vm K C):∃l N nm q bs hd g sub i e dd s u v w y m,h.get? C=some (excClassObj nm q C N bs l hd g sub i e dd s u v w y "ValueError.__new__")/\h.Ns N m/\m "__init__"=none/\OwnTail h wA l:=by
 unfold vm excIn at x
 split at x
 ·rename_i dd c sl look
  split at x
  ·rename_i F t k n o p z r a slots;simp only[nk,beq_iff_eq,Bool.not_eq_true']at x;obtain⟨⟨⟨⟨⟨A,B⟩,d⟩,j⟩,b⟩,f⟩:=x;subst A B;rcases c with⟨nm,bs,D,ns,E,hd,g,sub,i,e,dl⟩;dsimp only at a d b f;subst a;subst d;obtain rfl:sl=#[k,n,o,p,some (.builtin "ValueError.__new__"),r]:=by rcases sl with⟨list⟩;show r_ Array.mk slots
   show{t,ns,nm,E,bs,hd,g,sub,i,e,dd,k,n,o,p,r,_,kin _ _ look,.of_isNs (isNs_of_in kin b),nsMap_none_of_in kin b f,tail_of_in kin j}
  ·cases x
 ·cases x
def Ip(C:Addr)(E:XK)(t:TA):TS:=λ_ a H=>t a H λb c=>b.length<=sizeLine/\E (.ref C) none c
def eI{X:Cx}{C:Addr}{E:XK}{x:Str}{S a i:Pos}{e:Expr}{f:OM}{t:TA}(W:vm X.K C)(hg:Gl X x)(hm:X.mg x=some (.ref C))(hc:X.calm=true)(Z:Fx X E)(ha:PA X (e::f) t)(j:(x==("__debug__":Str))=false:=by decide)(u:starEach (e::f) X.env=(false,eval e X.env)::starEach f X.env:=by rfl)(l:(backTo a (starEach f X.env)).any (·.1)=false:=by rfl):PS X (.Raise (some (.Call (.Name x S) (e::f) [] a)) none i) (Ip C E t):=by
 intro c s v H D I h;obtain⟨w,N,nm,q,bs,hd,y,sub,A,d,dd,B,G,J,L,M,O,U,V,k,T⟩:=W.at I.mod.kin;show wpAny_Raise_call_subT (C:=C) (N:=N) (bm:=w) (mN:=O) (bmB:=wA) (newId:="ValueError.__new__") (nm:=nm) (q:=q) (bs:=bs) (hdct:=hd) (sn:=y) (sub:=sub) (ab:=A) (col:=d) (dd:=dd) (k0:=B) (k1:=G) (k2:=J) (k3:=L) (k5:=M) PySem.F.excBase_ValueError (T.hasType PySem.F.excBase_ValueError.hasBase) (I.ok.hd hc) ?_ k (pS I hg hm {(),?_} j)
 ·rw[u];change(false||(backTo a (starEach f X.env)).any (·.1))=false;rw[l];rfl
 ·have g:=ha a c s v H _ I h;rw[u]at g⊢;show z_ (cw g λQ R z0=>?_);obtain⟨vs,H1,I1,r,z,q1⟩:=z0;have p:∀b o,X.base.get? b=some o->R.heap.get? b=some o:=I1.bk;show{(),by change Q.length<=_;rw[<-r.length];show z,p _ _ U,V.keeps p,T.keeps p,λh' ea m=>Z c v H1 R (.ref C) Q h' ea I1 m q1}
def Un.flown{fs:OP}{H j:Hp}{h1 h' f B:Heap}(un:Un fs [] H j h1 h')(c:∀b o,h1.get? b=some o->b∉fs->∃u,B.get? b=some u)(k:B.StaysIn h')(l:B.StaysIn f)(up:h'.UpToSlots f)(fr:∀b∈fs,H b=none/\∀o,h1.get? b=some o->∀m,o.data≠.fields m):Un fs [] H j h1 f:=by
 have slot:∀b o,h1.get? b=some o->H b=none->b∈fs->∃sl,f.get? b=some {o with slots:=sl}:=λb o e n a=>by obtain⟨sl,h⟩:=un.slot b o e n a (by simp);obtain⟨i,d⟩:=up b _ h ((fr b a).2 o e);show(i,d,)
 show{λb o e n a p=>?_,λb o e n a _=>slot b o e n a,un.free,λb o e _=>?_,un.tups,un.frzs,un.tbls}
 ·have q:=un.keep b o e n a p;obtain⟨u,g⟩:=c b o e a;have d:=k b u g;rw[q]at d;cases d;show l b _ g
 ·by_cases a:b∈fs
  ·obtain⟨sl,h⟩:=slot b o e (fr b a).1 a;show{_,h}
  ·obtain⟨u,g⟩:=c b o e a;show{u,l b u g}
abbrev Cx.inExc(X:Cx)(a:Addr):Cx:={X with A:=X.A.mark (some (.ref a)),calm:=false,xe:=λ_ _=>False}
section
variable{X:Cx}{a:OH}{e:St}{H:Hp}{s:Shared}{c:Addr}
theorem Cx.Ok.inExc(ok:X.Ok)(c:Addr):(X.inExc c).Ok:={ok.mod,ok.kind,ok.glob,ok.blt,ok.above,ok.inj,ok.has,ok.cab,λz=>absurd z (by simp),ok.frames,ok.stk,ok.exf,ok.bs,ok.bsz,ok.noex,ok.exfs,ok.funs,ok.frf}
theorem aN.inExc(I:aN X a e H s)(c:Addr):aN (X.inExc c) a e H s:={I.ok.inExc c,I.os,I.bare,I.base,I.loc,I.cell,I.free,I.freeC,I.pin,I.hok,I.len}
def aN.outExc(ok:X.Ok)(I:aN (X.inExc c) a e H s):aN X a e H s:=(ok,I.os,I.bare,I.base,I.loc,I.cell,I.free,I.freeC,I.pin,I.hok,I.len,)
theorem SP.outExc(ok:X.Ok)(h:SP (X.inExc c) a D f g):SP X a D f g:=by cases f with|next=>obtain⟨b,d,I,q⟩:=h;show{b,d,I.outExc ok,q}|brk=>obtain⟨b,d,I,q⟩:=h;show{b,d,I.outExc ok,q}|cont=>obtain⟨b,d,I,q⟩:=h;show{b,d,I.outExc ok,q}|ret u=>obtain⟨v,b,d,I,r,q⟩:=h;show{v,b,d,I.outExc ok,r,q}
end
def mF(c:zi)(X:Cx)(E:XK)(a:OH)(f:St):Prop:=∀(H:Hp)(s:Shared)(e:Value)(b:Shared),aN X a f H s->c X.stack H s E e b->X.xe e b
def LL(X:Cx)(a:OH)(c:St)(e:Expr)(t:TE):Prop:=∀(s:Shared)(H:Hp)(Q:VK),aN X a c H s->t c H Q->wpAny (model X.prog X.w) X.A (eval e X.env) (EP X a c Q) X.xe s
def Kd(X:Cx)(a:OH)(c:St)(st:Stmt)(t:TS):Prop:=∀(s:Shared)(H:Hp)(D:jl),aN X a c H s->t D c H->wpAny (model X.prog X.w) X.A (exec st X.env) (SP X a D) X.xe s
structure FB(X:Cx)(pins:OH)(σ:St)(ea:Addr)(C':Value)(H':Hp)(s:Shared):Prop where
 inv:aN X pins σ H' s
 fly:∃(B:Heap)(t:Addr),Heap.FlyingW B X.stack ea C' (.ref t) s.heap/\∀h6,B.StaysIn h6->s.heap.UpToSlots h6->aN X pins σ H' {s with heap:=h6}nh:H' ea=none
 src:∃(H1:Hp)(s1:Shared),aN X pins σ H1 s1/\s1.heap.get? ea=none
def FB.run{X:Cx}{a:OH}{e:St}{c:Addr}{m:Value}{g:Hp}{s:Shared}{D:jl}{b:List Stmt}{j:TS}{A:Around}{l:Flow->Shared->Prop}{n o:OG}(L:FB X a e c m g s)(hh:∀c,vi (X.inExc c) b j)(h:j D e g)(p:∀f s,SP X a D f s->l f s):wpAny (model X.prog X.w) A (setFlight (.ref c) none) (λ_ s₁=>wpAny (model X.prog X.w) (X.A.mark (some (.ref c))) (execs b X.env) l n s₁) o s:=by obtain⟨B,t,q,k⟩:=L.fly;show lands_againW q λr d i=>wpAny_mono (hh c a _ e g D ((k r d.1 i).inExc c) h) (λf u z=>p f u (z.outExc L.inv.ok)) λ_ _ z=>z.elim
def FB.obj{X:Cx}{a:OH}{f:St}{c:Addr}{e:Value}{g:Hp}{s:Shared}(L:FB X a f c e g s):∃o,s.heap.get? c=some o/\o.cls=e:=by obtain⟨B,t,b,k⟩:=L.fly;show b.there
def LM(X:Cx)(a:OH)(c:St)(bs:List Stmt)(t:TS):Prop:=∀(s:Shared)(H:Hp)(D:jl),aN X a c H s->t D c H->wpAny (model X.prog X.w) X.A (execs bs X.env) (SP X a D) X.xe s
def Jk{X:Cx}{a:OH}{c:St}{st:Stmt}{t:TS}(h:Kd X a c st t):LM X a c [st] t:=λs H D I q=>Ou (cw (h s H D I q) λf b z=>by cases f with|next=>show No z|ret v=>show z|brk=>show z|cont=>show z)
def CP{X:Cx}{bs:List Stmt}{h0:ExceptHandler}{Q:List ExceptHandler}{Z:XK->TS}{R:Value->Hp->Prop}{S:Pos}{a:OH}{s:Shared}{i:St}{H:Hp}{D:jl}(n:X.stack=X.env::X.outer)(F:X.env.frame=some X.env.locals)(P:∀(E:XK)(a:OH)(i:St)(Xe:OG),mF (oN X.prog X.w) (X.wish Xe) E a i->LM (X.wish Xe) a i bs (Z E))(I:aN X a i H s)(h:Z (λj _ g=>R j g) D i H)(hc:∀c j g s5,R j g->FB X a i c j g s5->wpAny (model X.prog X.w) X.A (handleBy (.ref c) X.env (h0::Q)) (SP X a D) X.xe s5):wpAny (model X.prog X.w) X.A (exec (.Try bs (h0::Q) [] [] S) X.env) (SP X a D) X.xe s:=by
 show wpAny_Try_except ?_;have hp:mF (oN X.prog X.w) (X.wish λe s₁=>wpAny (model X.prog X.w) X.A (noteFrame e X.env) (λ_ G=>wpAny (model X.prog X.w) X.A (setFlight e none) (λ_ J=>wpAny (model X.prog X.w) X.A (handleBy e X.env (h0::Q)) (SP X a D) X.xe J) X.xe G) X.xe s₁) (λj _ g=>R j g) a i:=by
  rintro T p e q I1⟨c,j,B,t,g,rfl,os,bare,un,hok,r,l,d,U⟩;have I1:=I1.unwish;have un:Un (jU X.stack) [] T g p.heap q.heap:=un;have r:Heap.FlyingW B X.stack c j (.ref t) q.heap:=r;have d:∀b o,p.heap.get? b=some o->b∉jU X.stack->∃u,B.get? b=some u:=d;have x:∀b∈jU X.stack,T b=none/\∀o,p.heap.get? b=some o->∀V,o.data≠.fields V:=λb P=>by show{I1.stkFree b P,λo e=>?_};obtain⟨_,o',K,hd⟩:=I1.stack.mem P;rw[e]at K;cases K;show hd
  have Y:∀b u,B.get? b=some u->b≠c:=λb u e z=>by rw[z,r.2.1]at e;cases e
  have nh:g c=none:=by cases z:g c with|none=>rfl|some o=>show absurd () (Y _ _ (l _ _ z).choose_spec)
  have nw:p.heap.get? c=none:=by cases z:p.heap.get? c with|none=>rfl|some o=>
    by_cases F:c∈jU X.stack
    ·obtain⟨sl,e1⟩:=un.slot c o z (x c F).1 F (o_);obtain⟨_,_,_,oe,V,_,_,_,he,_,hd,_⟩:=r;rw[he]at e1;cases e1;show absurd hd ((x c F).2 o z V)
    ·show absurd () (Y _ _ (d _ _ z F).choose_spec)
  have m:∀y,B.StaysIn y->q.heap.UpToSlots y->aN X a i g {q with heap:=y}:=λy k up=>I1.call' (s':={q with heap:=y}) (ch:=[]) os (un.flown d r.1 k up x) (hok.flown l r.1 k) bare λb z=>absurd z (by simp)
  change wpAny (model X.prog X.w) X.A (noteFrame (.ref c) X.env) _ X.xe q;have L:=r;rw[n]at L;show wpAny_looks_onW (outer:=X.outer) (by rw[I.ok.frames,n]) F L λh4 C M=>?_;show wpAny_landsW C λy N O=>hc c j g _ U {m y N.1 (M.trans O),{B,t,by rw[n];show N,λh6 k6 W=>m h6 k6 ((M.trans O).trans W)},nh,T,p,I1,nw}
 show wpAny_mono (P _ a i _ hp s H D (I.wish _) h) (λf p z=>?_) λ_ _ z=>z;have z:=z.unwish;cases f with|next=>show No z|ret v=>show z|brk=>show z|cont=>show z
section
variable{X:Cx}{P:zi}{k:Nat}{f C:Addr}{fd:FuncData}{M:OL}{sp:Sp}{B:List V}{ds:OJ}{E:XK}{x m:Str}{n G:Pos}{e o:Expr}{L:OM}{R:TE}{t:TA}{j:OH}{J:St}
def IZ(F:aT X.prog X.w X.K X.mg X.base P k f fd M sp)(c:eZ k X.A)(g:fZ X.K fd M ds)(hd:be B ds)(i:mF P X E j J)(I:aN X j J H s)(r:be vs us)(h:sp (vs++B) H Q E):wpAny (model X.prog X.w) X.A (call (.ref f) us) (EP X j J Q) X.xe s:=by
 have a:be (vs++B) (us++ds):=r.append hd;have len:(us++ds).length=M.length:=a.length▸F.len _ _ _ _ h;show wpAny_call (MJ (F.run X.A X.stack s H {us,[]} (us++ds) (vs++B) Q E c I.env0 (g s us I.kIn len) a h) λb d z=>?_);rcases b with ex|l
 ·show i H s ex d I z
 ·cases l with|ret u=>show I.after z|next=>cases z|brk=>cases z|cont=>cases z
def GQ(N:PE X o R)(c:xH X.K C)(hm:FA X.K C m f)(F:aT X.prog X.w X.K X.mg X.base P k f fd M sp)(S:eZ k X.A)(T:fZ X.K fd M ds)(hd:be B ds)(Z:mF P X E j J)(ha:PA X (e::L) t)(i:starEach (e::L) X.env=(false,eval e X.env)::starEach L X.env:=by rfl)(y:(backTo n (starEach L X.env)).any (·.1)=false:=by rfl)(ht:eval (.Call (.Attribute o m G) (e::L) [] n) X.env=(do
   let obj<-eval o X.env
   standAt G.atName let(g,first)<-holding [obj] (getMethod obj m pl)callWith n g first (backTo n (starEach (e::L) X.env)) (backToKw n (keywordEach [] X.env))):=by rfl):LL X j J (.Call (.Attribute o m G) (e::L) [] n) (CT C m sp B E R t):=by intro s H Q I h;show PySem.W.methodCall_KW (pl:=pl) (cw (N j s J H _ I h) λu O⟨v,U,I1,Y,a,dx,fs,ev,ea,l,q⟩=>?_) ht;subst ev;cases(show u=Value.ref a from Y);show oG I1 ea c hm l (PySem.W.callWith_K (first:=[.ref a]) (h₀:=X.base) I.ok.mod.kin hm.kp (cw (ha n j O J U _ I1 q) λd s2⟨z,H2,D,r,q2⟩=>{D.kIn,?_}) i y);show IZ (us:=.ref a::d) (vs:=.ref a::z) F S T hd Z D (.cons () r) q2
def IX(c:X.N.Nodup)(hi:X.N[i]?=some x)(g:Ki X.env.scope x)(l:LL X j J e te)(q:swapsWith e (some (.Name x a)) n.line X.env=pure false:=by rfl)(r:X.fn x=true\/X.env.scope.names.lookup x=some .local:=by first|show .inl ()|show .inr ()|assumption):Kd X j J (.Assign [.Name x a] e n) (wB te (io i)):=by intro s H D I h;show wpAny_Assign_Name (cw (l s H _ I h) λv z⟨y,b,I1,d,u⟩=>sQ I1 c hi g d (λA w=>{_,b,w,u}) r) q
end
theorem PS.nox{X:Cx}{st:Stmt}{t:TS}(h:PS X.nox st t):PS X st t:=λa s b H D I c=>wpAny_mono (h a s b H D (I.wish _) c) (λ_ _ q=>q.unwish) λ_ _ z=>False.elim z
section
variable{P:OK}{w:World}{K:OF}{mg:OI}{base:Heap}
def xG.okE{x a:Str}{st:Stmt}{f:Addr}{fd:FuncData}{N h:OL}{k:Nat}{sp:Sp}(F:xG K x a st f fd)(S:aB N h (am st))(len:∀e H Q E,sp e H Q E->e.length=h.length)(g:∀(c:Value)(A:Around)(outer:List Env)(s:Shared)(H:Hp)(e:List V)(Q:VK)(E:XK),eZ k (A.deeper (envOfC a (am st) s.heap.objs.size f c))->sp e H Q E->∃t,vi (qF (oN P w) P w K mg base N a (am st) f c A outer s H E) (gJ st) t/\t {nx:=λ_ i=>Q .non i,rt:=Q} (iV N e) H):aT P w K mg base (oN P w) (k+1) f fd h sp:=by obtain⟨oc,n,kV,j,pm,o,c,ct,l,rfl,lk,b⟩:=F.ex;show HW lk b S len λA outer s H e Q E m d=>g c A outer s H e Q E m d
end
def Hk(s:Stmt):List Stmt:=match s with|.ClassDef _ _ _ b _ _ _ _ _ _ _=>b|_=>[]
abbrev bY:=bK⊕List bK
section
variable(P:OK)(w:World)
noncomputable def ij:bY->Int|.inl k=>(aV P w).hash k|.inr []=>hashW w.params .none|.inr (k::a)=>(tupleKind (aV P w)).hash (k::a)
def jT:bY->Nat|.inl _=>1|.inr a=>a.length+1
def kU(h:Heap)(k:bY)(v:Value):Prop:=match k with|.inl k=>(aV P w).is k v=true|.inr []=>v=.none|.inr (k::b)=>∃a,v=.ref a/\(tupleKind (aV P w)).is h (k::b) a
abbrev jZ:=bY×Value×Value
def sj(x:jZ):DictEntry:={ij P w x.1,x.2.1,x.2.2}
end
section
variable{P:OK}{w:World}{A:Around}{E:OG}{s:Shared}
def kU.flat(x:kU P w h (.inl k) v):(∃i t,v=.int i t/\k=.inl i)\/∃z t,v=.str z t/\k=.inr z:=by have x:nX k v=true:=x;cases k with
 |inl i=>have x:Value.isInt i v=true:=x;cases v with|int j t=>simp[Value.isInt]at x;show .inl {_,_,(),by rw[x]}|_=>cases x
 |inr z=>have x:Value.isStrOf z v=true:=x;cases v with|str j t=>simp[Value.isStrOf]at x;show .inr {_,_,(),by rw[x]}|_=>cases x
def Ep(e:A.units<cLine)(c:kU P w s.heap k v)(q:Q (ij P w k) {s with toks:=s.toks+jT k}):wpAny (model P w) A (pyHash v) Q E s:=by match k,c,q with|.inl k,c,q=>show(aV P w).pyHash c q|.inr [],c,q=>cases c;show pyHash_slot (T:="NoneType") () F.slot_NoneType_hash F.entry_NoneType_hash (F.args_NoneType_hash_1 _) (beq_builtin_none _) (.inr (by omega)) (a_ (f_ (a_ (wpAny_mkInt (f_ {_,_,(),q})))))|.inr (k::d),c,q=>obtain⟨a,rfl,b⟩:=c;show(tupleKind (aV P w)).pyHash e b q
def LE:SeqAt.EqAt A s .none .none true:=λprog w E Q a=>by unfold eqBool;show qq ?_;show vu (λ_=>a_ (C2 (f_ a))) (λz=>absurd (by decide) z)
def GT(f:A.units<cLine)(e:kU P w s.heap x u)(c:kU P w s.heap y v)(q:Q (decide (x=y)) s):wpAny (model P w) A (eqBool u v) Q E s:=by match x,e,q with
 |.inl x,e,q=>match y,c,q with
  |.inl y,c,q=>show(aV P w).eqBool e c (by simpa using q)|.inr [],c,q=>
   cases c;rw[me (by intro z;cases z)]at q;rcases kU.flat e with⟨i,t,rfl,_⟩|⟨z,t,rfl,_⟩
   ·show SeqAt.EqAt.int_none i t P w E Q q
   ·show SeqAt.EqAt.str_none z t P w E Q q|.inr (k::j),c,q=>
   obtain⟨a,rfl,o,g,n,d,hc,hd,hi⟩:=c;rw[me (by intro z;cases z)]at q;rcases kU.flat e with⟨i,t,rfl,_⟩|⟨z,t,rfl,_⟩
   ·show SeqAt.EqAt.int_tuple i t {_,d,hc,_,hd} f P w E Q q
   ·show SeqAt.EqAt.str_tuple z t {_,d,hc,_,hd} f P w E Q q
 |.inr [],e,q=>
  cases e
  match y,c,q with
  |.inl y,c,q=>
   rw[me (by intro z;cases z)]at q;rcases kU.flat c with⟨i,t,rfl,_⟩|⟨z,t,rfl,_⟩
   ·show SeqAt.EqAt.none_int i t P w E Q q
   ·show SeqAt.EqAt.none_str z t P w E Q q|.inr [],c,q=>cases c;rw[m_ ()]at q;show LE P w E Q q|.inr (k::j),c,q=>obtain⟨a,rfl,o,g,n,d,hc,hd,hi⟩:=c;rw[me (by intro z;cases z)]at q;show SeqAt.EqAt.none_tuple {_,d,hc,_,hd} f P w E Q q
 |.inr (k::j),e,q=>
  obtain⟨a,rfl,h⟩:=e
  match y,c,q with
 |.inl y,c,q=>
   obtain⟨o,g,n,d,hc,hd,hi⟩:=h;rw[me (by intro z;cases z)]at q;rcases kU.flat c with⟨i,t,rfl,_⟩|⟨z,t,rfl,_⟩
   ·show SeqAt.EqAt.tuple_int i t {_,d,hc,_,hd} f P w E Q q
   ·show SeqAt.EqAt.tuple_str z t {_,d,hc,_,hd} f P w E Q q|.inr [],c,q=>cases c;obtain⟨o,g,n,d,hc,hd,hi⟩:=h;rw[me (by intro z;cases z)]at q;show SeqAt.EqAt.tuple_none {_,d,hc,_,hd} f P w E Q q|.inr (l::ls),c,q=>obtain⟨b,rfl,m⟩:=c;show(tupleKind (aV P w)).eqBool f h m (by simpa using q)
def AY(c:kU P w s.heap k v)(q:Q true s):wpAny (model P w) A (eqIsQuiet 8 v) Q E s:=by match k,c with
 |.inl k,c=>
  rcases kU.flat c with⟨i,t,rfl,_⟩|⟨z,t,rfl,_⟩
  ·show f_ q
  ·show f_ q|.inr [],c=>cases c;show f_ q|.inr (k::d),c=>obtain⟨a,rfl,b⟩:=c;show(tupleKind (aV P w)).quiet b q
theorem kU.inj(f:kU P w h x v)(c:kU P w h y v):x=y:=by match x,f with
 |.inl x,f=>match y,c with|.inl y,c=>rw[(aV P w).inj v x y f c]|.inr [],c=>cases c;rcases kU.flat f with⟨i,t,e,_⟩|⟨z,t,e,_⟩<;>cases e|.inr (k::d),c=>obtain⟨a,rfl,_⟩:=c;rcases kU.flat f with⟨i,t,e,_⟩|⟨z,t,e,_⟩<;>cases e
 |.inr [],f=>
  cases f
  match y,c with|.inl y,c=>rcases kU.flat c with⟨i,t,e,_⟩|⟨z,t,e,_⟩<;>cases e|.inr [],_=>rfl|.inr (k::d),c=>obtain⟨a,e,_⟩:=c;cases e
 |.inr (k::d),f=>
  obtain⟨a,rfl,g⟩:=f
  match y,c with|.inl y,c=>rcases kU.flat c with⟨i,t,e,_⟩|⟨z,t,e,_⟩<;>cases e|.inr [],c=>cases c|.inr (l::ls),c=>obtain⟨b,e,j⟩:=c;cases e;rw[(tupleKind (aV P w)).inj g j]
def GS{k:bY}{v:Value}{st:OJ}{Q:Bool->Shared->Prop}(e:kU P w s.heap k v)(f:∀u∈st,∃a,kU P w s.heap a u)(q:Q false s):wpAny (model P w) A (tableMayTell v st) Q E s:=by
 unfold tableMayTell
 split
 ·show f_ q
 ·show a_ (AY e ?_);simp only[Bool.not_true,M8,NL];show a_ (Ot _ (λleft r b=>b=s/\r=(none,Unit.unit)/\∀u∈left,∃a,kU P w s.heap a u) _ ?_ ?_ _ _ {(),(),f})
  ·rintro u left r b⟨rfl,rfl,c⟩;obtain⟨a,d⟩:=c u mo;show a_ (AY d ?_);simp only[Bool.not_true,M8,NL];show f_ {(),(),λz g=>c z (j_ _ g)}
  ·rintro r b⟨rfl,rfl,_⟩;show f_ q
def Lq{a:Array DictEntry}{c:List jZ}(e:a.toList=c.map (sj P w))(j:Nat):a[j]?=(c[j]?).map (sj P w):=by rw[<-y2,e,ig]
def En{a:Array DictEntry}{c:List jZ}(e:a.toList=c.map (sj P w)):a.size=c.length:=by rw[<-nB,e,b_]
def Eo{a:List jZ}(hn:(a.map (·.1)).Nodup){i j:Nat}{k:bY}{p q:Value×Value}(hi:a[i]?=some (k,p))(c:a[j]?=some (k,q)):i=j:=by
 have b:(a.map (·.1))[i]?=some k:=by rw[ig,hi];rfl
 have d:(a.map (·.1))[j]?=some k:=by rw[ig,c];rfl
 show(I_ (d_.mp b).1 hn).mp (b.trans d.symm)
def Mm[Decidable c](h1:c->wpAny (model P w) A t Q E s)(h2:¬c->wpAny (model P w) A u Q E s):wpAny (model P w) A (if c then t else u) Q E s:=by
 by_cases h:c
 ·rw[i_ h];show h1 h
 ·rw[iA h];show h2 h
def Kh(a:List jZ)(k:bY)(s:Shared)(b:Option (Option Nat)×Option Nat)(c:Shared):Prop:=c=s/\((∃j p,b=(some (some j),none)/\a[j]?=some (k,p))\/(b.1=none/\((b.2=none/\∀(j:Nat)(p:Value×Value),a[j]?≠some (k,p))\/∃j p,b.2=some j/\a[j]?=some (k,p))))
def Jy{h:List jZ}{k:bY}{a:OO}(hn:(h.map (·.1)).Nodup)(u:∀j p,h[j]?=some (k,p)->j∈a)(v:∀j∈a,∃y:jZ,h[j]?=some y/\ij P w y.1=ij P w k)(m:a.Nodup)(f:Nat->Option (Option Nat)×Option Nat->Sem (ForInStep (Option (Option Nat)×Option Nat)))(h1:∀(x:Nat)(p:Value×Value)(R:ForInStep (Option (Option Nat)×Option Nat)->Shared->Prop),x∈a->h[x]?=some (k,p)->R (.done (some (some x),none)) s->R (.yield (none,some x)) s->wpAny (model P w) A (f x (none,none)) R E s)(h2:∀(x:Nat)(n:Option Nat)(y:jZ)(R:ForInStep (Option (Option Nat)×Option Nat)->Shared->Prop),x∈a->h[x]?=some y->ij P w y.1=ij P w k->y.1≠k->R (.yield (none,n)) s->wpAny (model P w) A (f x (none,n)) R E s):wpAny (model P w) A (forIn a ((none,none):Option (Option Nat)×Option Nat) f) (Kh h k s) E s:=by
 show Ot f (λleft b B=>B=s/\b.1=none/\∃pre,a=pre++left/\((b.2=none/\∀j∈pre,∀p,h[j]?≠some (k,p))\/∃j p,b.2=some j/\j∈pre/\h[j]?=some (k,p))) _ ?_ ?_ _ _ {(),(),[],(),.inl {(),by simp}}
 ·rintro x left⟨b1,b2⟩B⟨rfl,rfl,pre,o,t⟩;have i:x∈a:=by rw[o];simp
  have C:x∉pre:=λz=>by rw[o,ov]at m;show m.2.2 x z x mo ()
  obtain⟨y,l,hh⟩:=v x i;have r:a=(pre++[x])++left:=by rw[o];simp
  by_cases e:y.1=k
  ·obtain⟨D,p⟩:=y;have e:D=k:=e;subst e;rcases t with⟨rfl,g⟩|⟨j,q,rfl,d,c⟩
   ·show h1 x p _ i l {(),.inl {x,p,(),l}} {(),(),pre++[x],r,.inr {x,p,(),by simp,l}}
   ·show absurd (Eo hn c l▸d) C
  ·show h2 x b2 y _ i l hh e {(),(),pre++[x],r,?_};rcases t with⟨rfl,g⟩|⟨j,q,rfl,d,c⟩
   ·show .inl {(),λj d p z=>?_};rcases List.mem_append.mp d with d|d
    ·show g j d p z
    ·rw[List.mem_singleton.mp d,l]at z;cases z;show e ()
   ·show .inr {j,q,(),ol _ d,c}
 ·rintro⟨b1,b2⟩B⟨rfl,rfl,pre,o,t⟩;show{(),.inr {(),?_}};rcases t with⟨rfl,g⟩|⟨j,q,rfl,d,c⟩
  ·show .inl {(),λj p z=>g j ?_ p z};have:=u j p z;rw[o,pv]at this;show this
  ·show .inr {j,q,(),c}
def Er{d:Addr}{o:Obj}{n:Array DictEntry}{ep:Nat}{C:List jZ}{k:bY}{g:Value}{Q:Option Nat->Shared->Prop}(hu:A.units<cLine)(f:kU P w s.heap k g)(J:s.heap.get? d=some o)(hd:o.data=.dict n ep)(he:n.toList=C.map (sj P w))(u:∀x∈C,kU P w s.heap x.1 x.2.1)(hn:(C.map (·.1)).Nodup)(D:(∀(j:Nat)(p:Value×Value),C[j]?≠some (k,p))->Q none s)(q:∀(j:Nat)(p:Value×Value),C[j]?=some (k,p)->Q (some j) s):wpAny (model P w) A (dictFind d g (ij P w k)) Q E s:=by
 have sz:=En he;have B:=Lq he;generalize K:placesWithHash n.size (λi=>n[i]?.map (·.hash)) (ij P w k)=c;have ac:∀j p,C[j]?=some (k,p)->j∈c:=λj p l=>by
  rw[<-K];unfold placesWithHash;show C_.mpr {wr.mpr ?_,?_}
  ·rw[sz];show(d_.mp l).1
  ·change(n[j]?.map (·.hash)==some (ij P w k))=true;rw[B j,l];simp[sj]
 have O:∀j∈c,∃y:jZ,C[j]?=some y/\ij P w y.1=ij P w k:=λj l=>by rw[<-K]at l;unfold placesWithHash at l;obtain⟨h1,h2⟩:=C_.mp l;have h1:=wr.mp h1;rw[sz]at h1;show{C[j],il h1,?_};have h2:(n[j]?.map (·.hash)==some (ij P w k))=true:=h2;rw[B j,il h1]at h2;simpa[sj]using h2
 have al:c.Nodup:=by rw[<-K];show List.filter_sublist.nodup List.nodup_range
 have plain:wpAny (model P w) A (dictWalkPlain d g (ij P w k) n c) Q E s:=by
  unfold dictWalkPlain;show a_ (Ot _ (λleft b s'=>s'=s/\b=(none,Unit.unit)/\∃pre,c=pre++left/\∀j∈pre,∀p,C[j]?≠some (k,p)) _ ?_ ?_ _ _ {(),(),[],(),by simp})
  ·rintro x left b s'⟨rfl,rfl,pre,hp,S⟩;obtain⟨⟨L,kv,v'⟩,m,hh⟩:=O x (by rw[hp];simp);have hex:n[x]?=some {ij P w L,kv,v'}:=by rw[B x,m];rfl
   rw[hex];dsimp only;rw[i_ (by rw[hh];simp)];show a_ (Ha J hd (a_ (GT (x:=L) (y:=k) hu (u _ (g_ m)) f (a_ (Ha J hd ?_)))));change wpAny (model P w) A (if(ep !=ep)=true then _ else _) _ E s';rw[iA (by simp)]
   by_cases M:L=k
   ·rw[m_ M];subst M;show a_ (C2 (f_ (f_ (q x _ m))))
   ·rw[me M];show a_ (C2 (f_ {(),(),pre++[x],by rw[hp];simp,λj l p z=>?_}));rcases List.mem_append.mp l with l|l
    ·show S j l p z
    ·rw[List.mem_singleton.mp l,m]at z;cases z;show M ()
  ·rintro b s'⟨rfl,rfl,pre,hp,S⟩;show f_ (D λj p z=>S j ?_ p z);have:=ac j p z;rw[hp,pv]at this;show this
 have ad:∀v∈c.filterMap (λi=>n[i]?.map (·.key)),∃L,kU P w s.heap L v:=λv T=>by obtain⟨i,hi,T⟩:=List.mem_filterMap.mp T;obtain⟨y,H,_⟩:=O i hi;rw[B i,H]at T;cases T;show{_,u y (g_ H)}
 unfold dictFind
 with_reducible show qq ?_
 show a_ (wpAny_dictEntries J hd ?_);dsimp only;rw[K];generalize a5:c.filterMap (λi=>n[i]?.map (·.key))=stored at ad⊢;have G:∀z t,g=.str z t->(n.all λe=>isExactStrKey e.key)=true->wpAny (model P w) A (foundByValue d g n z) Q E s:=by
  rintro z t rfl-;have ek:k=.inl (.inr z):=by
   cases k with|inl k=>
    rcases f.flat with⟨i,t',e,_⟩|⟨z',t',e,e2⟩
    ·cases e
    ·cases e;rw[e2]|inr ks=>cases ks with|nil=>cases f|cons k ks=>obtain⟨a,e,_⟩:=f;cases e
  have an:∀(j:Nat)(y:jZ),C[j]?=some y->y.2.1.isStr z=true->y.1=k:=λj y H I=>by have h3:=u y (g_ H);show kU.inj h3 ?_;rw[ek];cases T:y.2.1 with
 |str z' t'=>
    rw[T]at I;have:z'=z:=by simpa[Value.isStr]using I
    rw[this];show rg P w z t'|_=>rw[T]at I;cases I
  have ap:∀(j:Nat)(p:Value×Value),C[j]?=some (k,p)->p.1.isStr z=true:=λj p l=>by
   have h3:kU P w s.heap k p.1:=u _ (g_ l);rw[ek]at h3;rcases h3.flat with⟨i,t',_,e⟩|⟨z',t',e,e2⟩
   ·cases e
   ·cases e2;rw[e];simp[Value.isStr]
  unfold foundByValue;cases hf:n.findIdx? (λe=>e.key.isStr z)with
 |none=>
   show f_ (D λj p l=>?_);have F:=Array.findIdx?_eq_none_iff.mp hf;have h4:n[j]?=some (sj P w (k,p)):=by rw[B j,l];rfl
   have h5:=F _ (Array.mem_of_getElem? h4);have h6:p.1.isStr z=false:=by simpa[sj]using h5
   rw[ap j p l]at h6;cases h6|some i=>
   obtain⟨U,hi,_⟩:=Array.findIdx?_eq_some_iff_getElem.mp hf;have m:C[i]?=some (C[i]'(by rw[<-sz];show U)):=il _;generalize C[i]'(by rw[<-sz];show U)=y at m;have hex:n[i]?=some (sj P w y):=by rw[B i,m];rfl
   have as:y.2.1.isStr z=true:=by rw[x_ U]at hex;rw[mu hex]at hi;show hi
   have H:=an i y m as;obtain⟨L,p⟩:=y;have H:L=k:=H;subst H;dsimp only;rw[hex];dsimp only;show a_ (Ha J hd (a_ (GT (x:=L) (y:=L) hu (u _ (g_ m)) f (a_ (Ha J hd ?_)))));rw[iA (by simp),i_ (m_ ())];show a_ (C2 (f_ (q i p m)))
 have N:∀a,g=.ref a->¬(n.any λe=>e.key==g&&e.hash !=ij P w k)=true:=by intro a ea;rw[<-Array.any_toList,he,NP];rintro⟨e,ax,hc⟩;obtain⟨y,H,rfl⟩:=k_.mp ax;simp only[sj,nk,beq_iff_eq,bne_iff_ne,ne_eq]at hc;have h3:=u y H;rw[hc.1]at h3;show hc.2 (by rw[h3.inj f])
 by_cases F:((g::stored).all carriedByValue)=true
 ·rw[i_ F]
  split
  ·rename_i z t
   split
   ·rename_i I;show G z t () I
   ·show plain
  ·show plain
 ·rw[iA F];have V:(∃i t,g=.int i t)\/(∃z t,g=.str z t)\/(∃a,g=.ref a)\/g=.none:=by
   cases k with|inl k=>
    rcases f.flat with⟨i,t,e,_⟩|⟨z,t,e,_⟩
    ·show .inl (i,t,e,)
    ·show .inr (.inl (z,t,e,))|inr ks=>cases ks with|nil=>show .inr (.inr (.inr f))|cons k ks=>obtain⟨a,e,_⟩:=f;show .inr (.inr (.inl (a,e,)))
  have W:∀(x:Nat)(p:Value×Value),C[x]?=some (k,p)->∃e,n[x]?=some e/\e.hash=ij P w k/\kU P w s.heap k e.key:=λx p m=>{_,by rw[B x,m];rfl,(),u _ (g_ m)};have X:∀(x:Nat)(y:jZ),C[x]?=some y->∃e,n[x]?=some e/\e.hash=ij P w y.1/\kU P w s.heap y.1 e.key:=λx y m=>{_,by rw[B x,m];rfl,(),u _ (g_ m)};rcases V with⟨i,t,e⟩|⟨z,t,e⟩|⟨a,e⟩|e
  case' inl=>subst e;dsimp only
  case' inr.inl=>
   subst e;dsimp only
   by_cases I:(n.all λe=>isExactStrKey e.key)=true
   case pos=>rw[i_ I];show G z t () I
   case' neg=>rw[iA I]
  case' inr.inr.inl=>subst e;dsimp only;rw[iA (N a ())]
  case' inr.inr.inr=>subst e;dsimp only
  all_goals show Mm (λ_=>a_ (f_ ?_)) (λ_=>a_ (GS f ad ?_))
  all_goals rw[iA (by simp)];show a_ (wpAny_mono (Jy (P:=P) (w:=w) hn ac O al _ ?_ ?_) (λb s' z=>?_) λ_ _ z=>z)
  all_goals first
   |(obtain⟨b1,b2⟩:=b
     obtain⟨rfl,h⟩:=z;rcases h with⟨j,p,e,l⟩|⟨e,h⟩
     ·cases e;show f_ (q j p l)
     ·have e:b1=none:=e;subst e;rcases h with⟨e,h⟩|⟨j,p,e,l⟩<;>(have e:b2=_:=e;subst e)
      ·show f_ (D h)
      ·show f_ (q j p l))
   |(intro x p R a2 m r1 r2
     obtain⟨e,Y,Z,aa⟩:=W x p m;rw[Y];dsimp only;rw[i_ (by rw[Z];simp)];show a_ (Ha J hd (a_ (GT (x:=k) (y:=k) hu aa f (a_ (Ha J hd ?_)))));rw[iA (by simp),i_ (m_ ()),iA (by simp)];show a_ (C2 ?_)
     split
     ·show f_ r1
     ·show f_ r2)
   |(intro x a6 y R a2 m hh a3 r
     obtain⟨e,Y,Z,aa⟩:=X x y m;rw[Y];dsimp only;rw[i_ (by rw[Z,hh];simp)];show a_ (Ha J hd (a_ (GT (x:=y.1) (y:=k) hu aa f (a_ (Ha J hd ?_)))));rw[iA (by simp),iA (by simp[a3])];show a_ (C2 ?_);rw[iA (by simp)];show f_ r)
def AZ{c:Type}{a:List (bY×c)}(hn:(a.map (·.1)).Nodup){j:Nat}{k:bY}{p:c}(f:a[j]?=some (k,p)):a.find? (λx=>decide (x.1=k))=some (k,p):=by
 rw[List.find?_eq_some_iff_append];obtain⟨g,e⟩:=d_.mp f;show{m_ (),a.take j,a.drop (j+1),?_,λy h=>?_}
 ·rw[<-e,List.getElem_cons_drop,u_]
 ·obtain⟨i,hi⟩:=iq.mp h;have b:i<j:=by have:=(d_.mp hi).1;rw[oa]at this;omega
  rw[NF b]at hi;have:y.1≠k:=λz=>by
   have d:(a.map (·.1))[i]?=some k:=by rw[ig,hi,<-z];rfl
   have l:(a.map (·.1))[j]?=some k:=by rw[ig,f];rfl
   have:=(I_ (d_.mp d).1 hn).mp (d.trans l.symm);lia
  simp[this]
def vO{c:Type}{e:List (bY×c)}{k:bY}(h:∀(j:Nat)(p:c),e[j]?≠some (k,p)):e.find? (λx=>decide (x.1=k))=none:=by rw[Of];intro x b a;obtain⟨j,d⟩:=iq.mp b;have a:x.1=k:=l_ a;show h j x.2 (by rw[d,<-a])
structure jh(P:OK)(w:World)(h:Heap)(d:Addr)(ys:List jZ):Prop where ok:∃o es ep,h.get? d=some o/\o.ExactDict/\o.data=.dict es ep/\es.toList=ys.map (sj P w)nd:(ys.map (·.1)).Nodup
def fS{c a:Type}(e:List (bY×c×a))(k:bY):Option a:=(e.find? λy=>decide (y.1=k)).map (·.2.2)
def gr{a c:Type}(e:List (bY×a×c))(k:bY)(f:a)(v:c):List (bY×a×c):=if(fS e k).isSome then e.map λy=>if y.1=k then(y.1,y.2.1,v)else y else e++[(k,f,v)]
def Lp{d:Addr}{e:List jZ}{k:bY}{c:Value}{Q:Option Value->Shared->Prop}(g:A.units<cLine)(a:kU P w s.heap k c)(hm:jh P w s.heap d e)(f:∀x∈e,kU P w s.heap x.1 x.2.1)(q:Q (fS e k) {s with toks:=s.toks+jT k}):wpAny (model P w) A (dictGet d c) Q E s:=by
 obtain⟨o,l,m,b,hc,hd,h⟩:=hm.ok;unfold dictGet
 with_reducible show qq ?_
 show a_ (Ep g a (a_ (Er (s:={s with toks:=s.toks+jT k}) g a b hd h f hm.nd (λno=>?_) λj p i=>?_)))
 ·unfold fS at q;rw[vO no]at q;show f_ q
 ·unfold fS at q;rw[AZ hm.nd i]at q;show a_ (wpAny_dictEntries (s:={s with toks:=s.toks+jT k}) b hd ?_);rw[Lq h j,i];show f_ q
def Jz(a:List (bY×e×c))(k:bY)(v:c):(a.map λy=>if y.1=k then(y.1,y.2.1,v)else y).map (·.1)=a.map (·.1):=by
 rw[s_];show E2 λy _=>?_;change(if y.1=k then(y.1,y.2.1,v)else y).1=y.1
 split<;>rfl
def Lo{d:Addr}{f:List jZ}{k:bY}{c v:Value}{Q:Unit->Shared->Prop}(u:A.units<cLine)(g:kU P w s.heap k c)(hm:jh P w s.heap d f)(n:∀x∈f,kU P w s.heap x.1 x.2.1)(C:f.length<sizeLine)(q:∀h',jh P w h' d (gr f k c v)->Heap.SameBut d s.heap h'->Q Unit.unit {s with heap:=h',toks:=s.toks+jT k}):wpAny (model P w) A (dictSet d c v) Q E s:=by
 obtain⟨o,H,B,h,hc,hd,m⟩:=hm.ok;unfold dictSet
 with_reducible show qq ?_
 show a_ (Ep u g ?_);unfold dictSetHashed
 with_reducible show qq ?_
 show a_ (Er (s:={s with toks:=s.toks+jT k}) u g h hd m n hm.nd (λno=>?_) λj p l=>?_)
 ·have r:gr f k c v=f++[(k,c,v)]:=by unfold gr fS;rw[vO no];rfl
  have D:k∉f.map (·.1):=λz=>by obtain⟨y,F,e⟩:=k_.mp z;obtain⟨j,l⟩:=iq.mp F;show no j y.2 (by rw[l,<-e])
  rw[r]at q;show a_ (C2 (wpAny_updateDictKeys (hz:=by have:=En m;omega) (s:={s with toks:=s.toks+jT k}) h hd (q _ {{_,_,B+1,vr _ h (Obj.isFreed_of_dict (Obj.data_mapDictKeys hd _)),hc.mapDictKeys _,Obj.data_mapDictKeys hd _,?_},?_} (MF ..))))
  ·rw[Oq,m,ir];rfl
  ·rw[ir,ov];show{hm.nd,by simp,λa G b t e=>D ?_};have t:b=k:=List.mem_singleton.mp t;rw[<-t,<-e];show G
 ·have r:gr f k c v=f.map λy=>if y.1=k then(y.1,y.2.1,v)else y:=by unfold gr fS;rw[AZ hm.nd l];rfl
  rw[r]at q;show a_ (C2 (a_ (wpAny_updateDict (s:={s with toks:=s.toks+jT k}) h hd (wpAny_point (q _ {{_,_,B,vr _ h (Obj.isFreed_of_dict (Obj.data_mapDict hd _)),hc.mapDict _,Obj.data_mapDict hd _,?_},by rw[Jz];show hm.nd} (MF ..))))));rw[Array.toList_modify,m];show J_ λi=>?_;rw[List.getElem?_modify,ig,ig,ig];cases hi:f[i]?with|none=>by_cases e:j=i<;>simp[e]|some y=>
   by_cases e:j=i
   ·subst e;rw[l]at hi;cases hi;simp[sj]
   ·have:y.1≠k:=λz=>e (Eo hm.nd l (q:=y.2) (by rw[hi,<-z]));simp[e,this]
def jh.type(hm:jh P w s.heap d c):s.TypeIs (.ref d) "dict":=let⟨o,_,_,a,hc,_⟩:=hm.ok;(o,a,hc.1,)
def jh.bare(hm:jh P w s.heap d c):∀b,Value.ref d=.ref b->∃ob,s.heap.get? b=some ob/\ob.dict=none:=λb e=>by cases e;obtain⟨o,_,_,a,hc,_⟩:=hm.ok;show(o,a,hc.2.1,)
def zQ(d:Addr)(a dflt:Value)(hd:(d==sysModules)=false):MeetsIn P w (Builtin.«dict.get» {[.ref d,a,dflt],[]}) (λA R s=>A.in1.units<cLine/\∃k c,kU P w s.heap k a/\jh P w s.heap d c/\(∀x∈c,kU P w s.heap x.1 x.2.1)/\R (.ok (.ret ((fS c k).getD dflt))) {s with toks:=s.toks+jT k}):=.of_wp λA R s⟨e,k,c,f,hm,hi,h⟩=>by change wpAny (model P w) _ (dictGet d a>>=_) _ _ s;show a_ (Lp e f hm hi ?_);cases b:fS c k with|some v=>rw[b]at h;show f_ {v,(),h}|none=>rw[b]at h;show a_ (wpAny_missed_other hd (f_ {dflt,(),h}))
def B4(g:A.in1.units<cLine)(c:kU P w s.heap k a)(hm:jh P w s.heap d e)(f:∀x∈e,kU P w s.heap x.1 x.2.1)(h:e.length<sizeLine)(q:∀h',jh P w h' d (gr e k a v)->Heap.SameBut d s.heap h'->Q Unit.unit {s with heap:=h',toks:=s.toks+jT k}):wpAny (model P w) A (setItem (.ref d) a v) Q E s:=by
 unfold setItem
 with_reducible show qq ?_
 show a_ (wpAny_sequenceKey hm.type (by decide) (a_ (ro (name:=Str.ofString "__setitem__") hm.type slot_dict_setitem (q_ slot_dict_setitem hm.type entry_dict_setitem ?_ (args_dict_setitem _ _ _)))));change wpAny (model P w) _ (Builtin.Dict.notOrdered "__setitem__" {[.ref d,a,v],[]}>>=_) _ _ s;show a_ (wpAny_notOrdered_dict hm.type ?_);change wpAny (model P w) A.in1 (dictSet d a v>>=_) _ _ s;show a_ (Lo g c hm f h λh' h1 h2=>f_ {.none,(),f_ (q h' h1 h2)})
end
abbrev gt:=bY×V×V
def qN(a:List gt)(c:List jZ):Prop:=Paired (λ(p:gt)(q:jZ)=>p.1=q.1/\a0 p.2.1 q.2.1/\a0 p.2.2 q.2.2) a c
abbrev dM(P:OK)(w:World)(d:Addr)(c:List gt):HO:=.ext λh=>(d==sysModules)=false/\∃a,qN c a/\jh P w h d a
def dz(K:OF)(H:Hp)(k:bY)(v:V):Prop:=match k with|.inl k=>v=kV k|.inr []=>v=.non|.inr (k::b)=>∃a,v=.ref a/\aS K H a ((k::b).map kV)
def eQ(K:OF)(H:Hp)(a:List gt):Prop:=∀x∈a,dz K H x.1 x.2.1
def jh.keep(m:jh P w h1 d a)(k:∀o,h1.get? d=some o->h2.get? d=some o):jh P w h2 d a:=let⟨o,b,c,e,r⟩:=m.ok;{{o,b,c,k o e,r},m.nd}
def HZ(hd:(d==sysModules)=false)(r:qN a ys)(m:jh P w h d ys):c8 P w H h d (dM P w d a):={(hd,ys,r,m,),let⟨o,_,_,e,_⟩:=m.ok;(o,e,),λ_ _⟨h1,ys,h2,h3⟩k=>{h1,ys,h2,h3.keep k}}
def dz.is(I:aN X f l H s)(h:dz X.K H k v)(r:a0 v u):kU X.prog X.w s.heap k u:=by cases k with|inl k=>have h:v=kV k:=h;subst h;show nY r|inr b=>cases b with|nil=>have h:v=.non:=h;subst h;show r|cons k b=>obtain⟨a,rfl,g⟩:=h;cases r;obtain⟨i,j,⟨o,e,c,n,d⟩,_⟩:=I.tuple g;show{a,(),o,_,n,e,c,d,qC j}
theorem qN.keys(I:aN X c g H s):∀{e:List gt}{f:List jZ},qN e f->eQ X.K H e->∀y∈f,kU X.prog X.w s.heap y.1 y.2.1
 |_,_,.nil,_,y,b=>nomatch b|_,_,.cons (a:=p) r t,k,y,b=>by
  rcases so.mp b with rfl|b
  ·rw[<-r.1];show(k p mo).is I r.2.1
  ·show qN.keys I t (λx d=>k x (j_ _ d)) y b
theorem qN.val:∀{a:List gt}{c:List jZ},qN a c->∀k,kK (fS a k) (fS c k)
 |_,_,.nil,_=>True.intro|p::a,q::c,.cons r t,k=>by
  unfold fS;rw[to,to,<-r.1]
  by_cases e:p.1=k
  ·rw[m_ e];show r.2.2
  ·rw[me e];show qN.val t k
def qN.put(h:qN c f)(i:a0 j l)(g:a0 v u):qN (gr c k j v) (gr f k l u):=by
 have a:(fS c k).isSome=(fS f k).isSome:=(h.val k).isSome_eq;unfold gr;rw[a]
 split
 ·rename_i hc;clear a hc
  induction h with|nil=>show .nil|@cons p q d m r t b=>
   show .cons ?_ b;dsimp only;rw[<-r.1]
   by_cases e:p.1=k
   ·rw[i_ e,i_ e];show{(),r.2.1,g}
   ·rw[iA e,iA e];show r
 ·rename_i hc;clear a hc
  induction h with|nil=>show .cons {(),i,g} .nil|cons r t b=>show .cons r b
def qN.len(h:qN a c):a.length=c.length:=Paired.length h
section
variable{X:Cx}{P:OK}{w:World}{o e f:Expr}{n g c:Pos}{j ty l:TE}
def Iz(P:OK)(w:World):TE:=λ_ H Q=>∀p,H p=none->Q (.ref p) (aH H p (dM P w p []))
def DO(i:X.prog=P:=by rfl)(m:X.w=w:=by rfl):PE X (.Dict [] [] n) (Iz P w):=λb s d H Q I h=>by subst i m;show wpAny_Dict_empty {.ref s.heap.objs.size,_,I.laid (a:=s.heap.objs.size) (o:=dM X.prog X.w s.heap.objs.size []) (t':=s.toks) (λ_ _ q=>c_ _ q) (e_ _) ?_,(),h _ (I.hok.fresh (e_ _))};show HZ (ys:=[]) (E1.mpr λz=>absurd (z▸I.big) (rV _)) .nil {{_,#[],0,h_ _ (),{(),(),()},(),()},MT}
def Iv(K:OF)(P:OK)(w:World)(j ty l:TE):TE:=λd H Q=>j d H λx m=>∃a h,x=.ref a/\m a=some (dM P w a h)/\ty d m λy p=>l d p λz b=>∃i k,b a=some (dM P w a i)/\eQ K b i/\dz K b k y/\Q ((fS i k).getD z) b
def DM(K:OF)(B:X.K=K)(C:X.A.units+1<cLine)(D:PE X o j)(E:PE X e ty)(G:PE X f l)(m:M2 X o "get" g e f c)(J:X.prog=P:=by rfl)(L:X.w=w:=by rfl):PE X (.Call (.Attribute o "get" g) [e,f] [] c) (Iv K P w j ty l):=by subst J L B;intro b s r H Q I h;show M_ m.base m.few m.line PySem.F.plainAttrs_dict PySem.F.slot_dict_get PySem.F.type_dict_get (cw (D b s r H _ I h) λu M i=>?_);obtain⟨x,N,I1,O,a,R,ex,d,S⟩:=i;subst ex;cases(show u=Value.ref a from O);obtain⟨⟨_,T,_,t⟩,_⟩:=I1.hok a _ d;show{t.type,t.bare,?_};rw[m.trees];show tA () (z_ (th (cw (E b M r N _ I1 S) λiv U i=>?_)));obtain⟨y,V,Y,Z,q2⟩:=i;show th (cw (G b U r V _ Y q2) λfv s3 i=>?_);obtain⟨z,H3,q,rz,xs,k,d3,ks,hk,q3⟩:=i;show B_ ?_;obtain⟨⟨hd,ys,p,v⟩,_⟩:=q.hok a _ d3;show MK PySem.F.slot_dict_get v.type PySem.F.entry_dict_get (PySem.F.args_dict_get_3 _ _ _) (zQ a iv fv hd) {C,k,ys,hk.is q Z,v,p.keys q ks,?_};show{_,H3,q.tok _,(p.val k).getD rz,q3}
def K8(K:OF)(P:OK)(w:World):Hw:=λo i v H Q=>∃a b k,o=.ref a/\H a=some (dM P w a b)/\eQ K H b/\dz K H k i/\b.length<sizeLine/\Q (aH H a (dM P w a (gr b k i v)))
def DA(K:OF)(x:X.K=K)(y:X.A.units+1<cLine)(z:X.prog=P:=by rfl)(B:X.w=w:=by rfl):HA X (K8 K P w):=by subst z B x;intro p s L H o i v M iv u Q I C r D h;obtain⟨a,N,k,rfl,d,E,F,G,q⟩:=h;cases C;obtain⟨⟨hd,O,b,m⟩,_⟩:=I.hok a _ d;show B4 y (F.is I r) m (b.keys I E) (by rw[<-b.len];show G) λh' t J=>?_;show{_,pZ I (by rw[d];show True.intro) J (let⟨o,_,_,e,_⟩:=t.ok;(o,e,)) ?_,q};show HZ hd (b.put r D) t
end
section
variable{X:Cx}{o e c:Expr}{f:Str}{j g:Pos}{l m:TE}
def aL(K:OF)(a:X.K=K)(h:PE X e l)(i:attributeBase e f X.env (eval e X.env)=eval e X.env:=by rfl):PE X (.Attribute e f j) (KH K l f):=by subst a;show Ji h i
def cE(K:OF)(a:X.K=K)(h:PE X o l)(i:PE X c m)(n:swapsWith c (some (.Attribute o f g)) j.line X.env=pure false:=by rfl):PS X (.Assign [.Attribute o f g] c j) (KY K l m f):=by subst a;show Jd h i n
def La:Hw:=λo i v H Q=>∃a b k,o=.ref a/\i=kV k/\H a=some (.dK b)/\b.length<sizeLine/\Q (aH H a (.dK (cL b k v)))
def lQ(n:X.A.units+1<cLine):HA X La:=by intro b s z H o i v B iv u Q I p r t h;obtain⟨a,w,k,rfl,rfl,d,x,q⟩:=h;cases p;show wb n I (zh.k d x) r t λC y=>{_,y,q}
end
section
variable{P:OK}{w:World}{A:Around}{E:OG}{s:Shared}
def EO(ty:s.TypeIs (.ref r) "list_reverseiterator")(q:Q false s):wpAny (model P w) A (Builtin.List.listLengthHint (.ref r)) Q E s:=by
 unfold Builtin.List.listLengthHint;show a_ (NU (r:=none) ty (by rw[NV,Na];kernel_rfl) ?_);show vu (λz=>absurd z (by decide+kernel)) (λ_=>?_);show vu (λz=>absurd z (by decide)) (λ_=>?_);show a_ (NU (r:=some (.builtin "list_reverseiterator.__length_hint__")) ty (by rw[NV,Na];kernel_rfl) ?_);generalize a:("list_reverseiterator.__length_hint__":String)=nm
 wp_delta
 rw[show splitId nm=some ("list_reverseiterator","__length_hint__")from by subst a;decide+kernel];subst a;show a_ (NJ (T:="list_reverseiterator") (b:=true) ty (by rw[N7];kernel_rfl) ?_);show vu (λz=>absurd z (by decide)) (λ_=>?_);show vu (λ_=>?_) (λz=>absurd (by decide+kernel) z);show vu (λz=>absurd z (by decide+kernel)) (λ_=>?_);show f_ q
def zA(hh:A.handled=none)(u:s.heap.IsRevIter r l ((a.size:Int)-1))(D:s.heap.IsList l a)(hn:a.size<=sizeLine)(x:l≠r)(p:S≠r)(y:S≠l)(g:Value)(B:Nat)(G:s.heap.get? S=some {cls:=.type "list",data:=.seq #[] B})(q:∀h' tk j c,(∀b o,b≠S->b≠r->s.heap.get? b=some o->h'.get? b=some o)->h'.get? S=some {cls:=.type "list",dict:=none,data:=.seq j c,slots:=#[]}->ItemsOf (λi v=>a[a.size-1-i]?=some v) j a.size->R (.ok (.ret g)) {s with heap:=h',toks:=tk}):wpAny (model P w) A.in1 (Builtin.List.listExtendWith (.ref S) (.ref r) g) (λfin n=>match fin with|.done f=>R (.ok f) n|.again C=>C.quiet=true/\codeAny (model P w) A C R n) (λe n=>R (.error e) n) s:=by
 have W:=Walks.listRev (prog:=P) (w:=w) (A:=A.in1) hh r l x a;have go:∀(h:Heap)(d tk:Nat),h.IsRevIter r l ((a.size:Int)-1)->h.IsList l a->(∀b o,b≠S->s.heap.get? b=some o->h.get? b=some o)->h.get? S=some {cls:=.type "list",data:=.seq #[] d}->codeAny (model P w) A (.builtin "list.extend.loop" {[.ref S,.ref r,g],[]}) R {s with heap:=h,toks:=tk}:=by
  intro h d tk k H I J;show codeAny_extend_loopS W.toS hn S (by simp[p,y]) g a.size 0 _ #[] d () (np _) {np _,by simpa using k,H} J (ItemsOf.nil _) λn j c t K L=>?_;rw[Moved.eq_with t];show q n.heap n.toks j c (λb o b1 b2 e=>t.heap b o (λm=>?_) (I b o b1 e)) K L;rcases so.mp m with z|z
  ·show b1 z
  ·show b2 (List.mem_singleton.mp z)
 unfold Builtin.List.listExtendWith;show a_ (Oh u.typeIs ?_);have ne:Builtin.List.listSameRef (.ref S) (.ref r)=false:=by simp[Builtin.List.listSameRef,p]
 have M:(Value.type "list_reverseiterator"==Value.type "list")=false:=by decide
 have N:(Value.type "list_reverseiterator"==Value.type "tuple")=false:=by decide
 simp only[ne,M,N,Bool.or_false,M8,NL];show a_ (wpAny_pyIter_revIter u (a_ (qq (EO u.typeIs ?_))));show vu (λz=>absurd z (by decide+kernel)) (λ_=>f_ {Nh PySem.F.plain_extend_loop _,go s.heap B s.toks u D (λ_ _ _ e=>e) G})
def DD(hh:A.handled=none)(u:s.heap.IsRevIter r l ((items.size:Int)-1))(x:s.heap.IsList l items)(hn:items.size<=sizeLine)(f:l≠r)(q:∀h' tk a c,(∀b o,b≠r->s.heap.get? b=some o->h'.get? b=some o)->h'.get? s.heap.objs.size=some {cls:=.type "list",dict:=none,data:=.seq a c,slots:=#[]}->ItemsOf (λi v=>items[items.size-1-i]?=some v) a items.size->Q (.ref s.heap.objs.size) {s with heap:=h',toks:=tk}):wpAny (model P w) A (call (.type "list") [.ref r]) Q E s:=by
 show callType_codes (Q₁:=λobj k=>obj=.ref s.heap.objs.size/\k={s with heap:=s.heap.push {cls:=.type "list",data:=.seq #[]}}) PySem.F.called_list (PySem.F.typeCall_list_1 _) PySem.F.entry_list_init (code_list_new _ {(),()}) λobj k z=>?_;obtain⟨rfl,rfl⟩:=z;have new:(s.heap.push {cls:=.type "list",data:=.seq #[]}).get? s.heap.objs.size=some {cls:=.type "list",data:=.seq #[]}:=h_ _ ();obtain⟨y,m,B,C⟩:=u;have n:s.heap.objs.size≠r:=op (j2 m);obtain⟨D,p,cl,G,dl⟩:=x;have t:s.heap.objs.size≠l:=op (j2 p);show{{_,new,()},PySem.F.args_list_init_2 _ _,?_};change wpAny (model P w) _ (do let g<-Builtin.List.listItems (.ref s.heap.objs.size);Builtin.List.listUpdate (.ref s.heap.objs.size) (λ_=>#[]);letGo g.toList.reverse;Builtin.List.listExtendWith (.ref s.heap.objs.size) (.ref r) .none) _ _ _;show a_ ?_;unfold Builtin.List.listItems;show a_ (z8 new () (f_ (a_ (OA new () (a_ (wpAny_letGo ?_))))));have d:=vr (Obj.mapSeq (λ_=>(#[]:ON))) new ();have keep:∀b o,b≠s.heap.objs.size->s.heap.get? b=some o->((s.heap.push {cls:=.type "list",data:=.seq #[]}).update s.heap.objs.size (Obj.mapSeq (λ_=>(#[]:ON)))).get? b=some o:=λb o h e=>by rw[x3 _ _ (o8 h)];show c_ _ e
 show zA (A:=A.in1) hh {y,keep _ _ (o8 n) m,B,C} {D,keep _ _ (o8 t) p,cl,G,dl} hn f n t .none _ d λh' tk a c H I J=>?_;show{(),q h' tk a c (λb o h e=>H b o (m3 (j2 e)) h (keep b o (m3 (j2 e)) e)) I J}
end
section
variable{X:Cx}{e:Expr}{te:TE}{m i g f:Pos}
def KA(K:OF)(te:TE):TE:=λc H Q=>te c H λx a=>∃p b,x=.ref p/\aW K a p b/\∀l,a l=none->Q (.ref l) (aH a l (.lst b.reverse))
def zE(K:OF)(Z:X.K=K)(hc:X.calm=true)(g1:Gl X "list")(m1:X.mg "list"=none)(g2:Gl X "reversed")(m2:X.mg "reversed"=none)(he:PE X e te)(B:starEach [.Call (.Name "reversed" i) [e] [] f] X.env=[(false,eval (.Call (.Name "reversed" i) [e] [] f) X.env)]:=by rfl)(C:starEach [e] X.env=[(false,eval e X.env)]:=by rfl):PE X (.Call (.Name "list" m) [.Call (.Name "reversed" i) [e] [] f] [] g) (KA K te):=by
 subst Z;intro y s N H Q I h;show y3 (kW I g1 m1 L2.qJ (callWith_type1 ?_ B));rw[B];change wpAny (model X.prog X.w) X.A (spliced [(false,eval (.Call (.Name "reversed" i) [e] [] f) X.env)]) _ _ s;show th (y3 (kW I g2 m2 L2.vf (callWith_type1 ?_ C)));rw[C];change wpAny (model X.prog X.w) X.A (spliced [(false,eval e X.env)]) _ _ s;show th (cw (he y s N H _ I h) λu k Y=>?_);obtain⟨x,H1,I1,rx,p,xs,ex,hq,q⟩:=Y;show B_ ?_;subst ex;cases(show u=Value.ref p from rx);obtain⟨d,O,⟨o,n,F,co,dd,ds⟩,P⟩:=I1.list hq;have hl:k.heap.IsList p d.toArray:=(o,F,co,n,ds,);show call_reversed_list hl (B_ ?_);have pr:p≠k.heap.objs.size:=m3 (j2 F);have R:aN X y N H1 {k with heap:=k.heap.push (revObj p ((d.toArray.size:Int)-1))}:=I1.kept (t':=k.toks) λb o e=>c_ _ e;show DD (r:=k.heap.objs.size) (l:=p) (items:=d.toArray) (I.ok.hd hc) {_,h_ _ (),(),()} {o,c_ _ F,co,n,ds} (by simpa[<-O.length]using P) pr λh' tk t c kk sS T=>?_;have D:t.toList=d.reverse:=by
  show J_ λj=>?_;have J:t.size=d.length:=by simpa using T.1
  rcases NS j d.length with E|E
  ·have U:t[j]?=some (t[j]'(by lia)):=x_ _;have L:=T.2 j _ U;rw[y2,U,List.getElem?_reverse E];simpa using L.symm
  ·rw[rm (by simpa[J]using E),rm (by simpa using E)]
 have I3:=R.laid (a:=(k.heap.push (revObj p ((d.toArray.size:Int)-1))).objs.size) (o:=.lst xs.reverse) (h':=(k.heap.push (revObj p ((d.toArray.size:Int)-1))).push {cls:=.type "list",data:=.seq t c}) (t':=tk) (λb u e=>c_ _ e) (e_ _) {by rw[Nt];show P,d.reverse,c,O.reverse,by rw[<-D];show h_ _ ()}
 have M:k.heap.objs.size<(k.heap.push (revObj p ((d.toArray.size:Int)-1))).objs.size:=by rw[p_];lia
 have I4:=I3.turned (it:=k.heap.objs.size) (h':=h') (t':=tk) (λb o hb e=>?_) (by rw[aq (m3 M)];show I1.hok.fresh (e_ _)) (op I1.lt) (.inr I1.sz) (λx c e z=>by obtain⟨v,o,V,_⟩:=I1.cell x c e;rw[z]at V;show absurd (j2 V) (rV _)) (λpp hp z=>by have:=(I1.pin pp hp).1;rw[z]at this;show absurd (j2 this) (rV _))
 ·show{.ref (k.heap.push (revObj p ((d.toArray.size:Int)-1))).objs.size,_,I4,(),q _ (R.hok.fresh (e_ _))}
 ·by_cases z:b=(k.heap.push (revObj p ((d.toArray.size:Int)-1))).objs.size
  ·subst z;rw[h_ _ ()]at e;cases e;show sS
  ·rcases Nl e with⟨z2,_⟩|L
   ·show absurd z2 z
   ·show kk b o hb L
end
end L2
namespace L2
open PySem
seal L2.vi L2.PS L2.PE L2.PT L2.PA L2.PI L2.PG L2.PW L2.Ke L2.PO
section
variable{X:Cx}
def Cv:dG X (.builtin "isinstance") (λc H Q=>∃x T t b,c=[x,.ty T]/\(kJ X.K H x t\/∃p f,x=.ref p/\aS X.K H p f/\t=.type "tuple")/\PySem.W.kitOne X.K t (.type T)=some b/\Q (.bl b) H):=by
 intro a s d H c g Q I r h;obtain⟨x,T,t,b,rfl,ty,e,q⟩:=h;rcases ty with ty|⟨p,f,rfl,i,rfl⟩
 ·show y8 a s d H _ g Q I r {x,T,t,b,(),ty,e,q}
 ·obtain⟨u,j,rfl,k,rt⟩:=vo r;obtain rfl:j=Value.type T:=rt;cases k;obtain⟨l,_,⟨o,h1,h2,_⟩,_⟩:=I.tuple i;show PySem.W.kia_one PySem.W.kitx_tuple I.kIn (o,h1,h2,) e (nofun) λtk=>{.bl b,H,I.tok tk,(),q}
def ft(K:OF)(a:X.K=K):dG X (.builtin "isinstance") (λc H Q=>∃x T t b,c=[x,.ty T]/\(kJ K H x t\/∃p e,x=.ref p/\aS K H p e/\t=.type "tuple")/\PySem.W.kitOne K t (.type T)=some b/\Q (.bl b) H):=by subst a;show Cv
end
end L2
namespace L2
open PySem PySem.Spec PyProof.Rows
def HB(K:OF)(pm:Params)(a:Addr):Prop:=(a==sysModules)=false/\∃b n,K.lookup a=some {.type "dict",none,.dict b n,#[]}/\PySem.W.KeysLit pm b.toList
def L3(K:OF)(t:Addr)(c:List V):Prop:=∃(o:Obj)(a:ON)(n:Nat),K.lookup t=some o/\o.cls=.type "tuple"/\o.data=.seq a n/\a.size<=sizeLine/\be c a.toList
def L3.sq{K:OF}{t:Addr}{a:List V}(h:L3 K t a)(H:Hp):aS K H t a:=.inr h
section
variable{P:OK}{w:World}{A:Around}{E:OG}{s:Shared}
def sM(c:s.heap.IsTupleIter j t k)(f:s.heap.IsTuple t e)(h:e[k]?=some v)(q:∀g,g.IsTupleIter j t (k+1)->Heap.SameBut j s.heap g->Q v {s with heap:=g}):wpAny (model P w) A (Builtin.SmallTypes.nextOf (.ref j)) Q E s:=by obtain⟨ob,b,i,a⟩:=id c;obtain⟨l,f1,_,m,f3⟩:=f;unfold Builtin.SmallTypes.nextOf;show a_ (ro (name:=Str.ofString "__next__") c.typeIs MV (q_ MV c.typeIs F.entry_tuple_iterator_next ?_ (OE _)));show(show wpAny _ _ (field (.ref j) 0>>=_) _ _ s from a_ (v_ b a (x:=.ref t) () ?_));show(show wpAny _ _ (if(Value.ref t==Value.none)=true then _ else(field (.ref j) 1>>=_)) _ _ s from ?_);rw[iA (show¬(Value.ref t==Value.none)=true fromλz=>kw z)];show a_ (v_ b a (x:=.int k 0) () ?_);show(show wpAny _ _ (seqItems? (.ref t)>>=_) _ _ s from a_ (z8 f1 f3 ?_));simp only[pu,h];show a_ (wpAny_setField b a (by simp) (f_ {v,(),f_ (q _ {_,vr _ b (Obj.isFreed_of_fields (Obj.data_mapFields a _)),(Obj.cls_mapFields ..).trans i,?_} (MF ..))}));rw[Obj.data_mapFields a];simp[rawInt]
def xM(hh:A.handled=none)(c:s.heap.IsTupleIter j t k)(h:s.heap.IsTuple t e)(i:e[k]?=none)(q:∀g x,Heap.ExtBut j s.heap g->(∃ob,g.get? x=some ob/\ob.cls=.type "StopIteration")->E (.ref x) {s with heap:=g}):wpAny (model P w) A (Builtin.SmallTypes.nextOf (.ref j)) Q E s:=by
 obtain⟨ob,b,l,d⟩:=id c;obtain⟨n,f1,_,o,f3⟩:=h;unfold Builtin.SmallTypes.nextOf;show a_ (ro (name:=Str.ofString "__next__") c.typeIs MV (q_ MV c.typeIs F.entry_tuple_iterator_next ?_ (OE _)));show(show wpAny _ _ (field (.ref j) 0>>=_) _ _ s from a_ (v_ b d (x:=.ref t) () ?_));show(show wpAny _ _ (if(Value.ref t==Value.none)=true then _ else(field (.ref j) 1>>=_)) _ _ s from ?_);rw[iA (show¬(Value.ref t==Value.none)=true fromλz=>kw z)];show a_ (v_ b d (x:=.int k 0) () ?_);show(show wpAny _ _ (seqItems? (.ref t)>>=_) _ _ s from a_ (z8 f1 f3 ?_));simp only[pu,i];show a_ (C2 (a_ (wpAny_setField b d (by simp) (show wpAny _ _ (newExc (.type "StopIteration") []>>=_) _ _ _ from a_ ?_))));simp only[newExc,newTuple];show a_ (rb (a_ (m:=firstArgMember _ _) (wpAny_of_eq (a:=Value.none) (by first|rfl|(simp only[firstArgMember];rfl)) (rb ?_ (by size_fits)))) (by size_fits));simp only[raiseNew];show a_ (wpAny_handled ?_)
 first|rw[show A.in1.handled=none from hh]|rw[hh]
 show a_ (f_ (wpAny_throw (q _ _ (((MF ..).extBut.push _).push _) {_,h_ _ (),()})))
def FM{b:Bool}{j t:Addr}{k:Nat}{a:ON}{v:Value}{Q:OG}(c:qS b s.heap j t k)(e:qb b s.heap t a)(f:a[k]?=some v)(q:∀g,qS b g j t (k+1)->Heap.SameBut j s.heap g->Q v {s with heap:=g}):wpAny (model P w) A (Builtin.SmallTypes.nextOf (.ref j)) Q E s:=by cases b with|false=>show sM c e f q|true=>show wpAny_nextOf_list_item c e f q
def Fy(z a e f:Addr)(h g:Heap):Prop:=∀c ob,c≠z->c≠a->c≠e->c≠f->h.get? c=some ob->g.get? c=some ob
def Bl{c:Bool}{z h f j m t l:Addr}{L M:Nat}{Z ys:ON}{x y a b:Value}{Q:OG}(D:ZipApart z h f j m t l)(B:IsZip s.heap z h f .none)(p1:IsPair s.heap h (.ref j) (.ref m))(p2:IsPair s.heap f a b)(i1:s.heap.IsTupleIter j t L)(i2:qS c s.heap m l M)(tt:s.heap.IsTuple t Z)(ll:qb c s.heap l ys)(hx:Z[L]?=some x)(hy:ys[M]?=some y)(q:∀g,IsZip g z h f (rawInt s.heap.objs.size)->IsPair g f x y->g.IsTupleIter j t (L+1)->qS c g m l (M+1)->IsPair g s.heap.objs.size x y->g.objs.size=s.heap.objs.size+1->Fy z f j m s.heap g->Q (.ref s.heap.objs.size) {s with heap:=g}):wpAny (model P w) A (Builtin.«zip.__next__» {[.ref z],[]}) (λfin s'=>∃v,fin=.done (.ret v)/\Q v s') E s:=by
 show(show wpAny _ _ (field (.ref z) 2>>=_) _ _ _ from a_ (v_ B () (x:=.bool false) () ?_));show(show wpAny _ _ (field (.ref z) 3>>=_) _ _ _ from a_ (v_ B () (x:=.ref h) () (a_ (z8 p1 () ?_))));show(show wpAny _ _ (Builtin.SmallTypes.ownedTupleIsFree (.ref z)>>=_) _ _ _ from a_ ?_);unfold Builtin.SmallTypes.ownedTupleIsFree;show a_ (v_ B () (x:=.none) () (f_ ?_));simp only[Oj];show a_ (C2 (a_ (v_ B () (x:=.ref f) () (a_ (sg B (by simp) λg1 O k=>?_)))))
 replace O:IsZip g1 z h f .ellipsis:=O
 show a_ ?_;simp only[List.zipIdx_cons,List.zipIdx_nil,N2,List.forIn_nil];show a_ (a_ (wpAny_onRaise (show wpAny _ _ (Builtin.SmallTypes.nextOf (.ref j)>>=_) _ _ _ from a_ (sM (i1.extBut k.extBut D.i1z) (tt.extBut k.extBut D.l1z) hx λg2 R r=>f_ ?_))));have C:IsPair g2 f a b:=r.extBut _ _ D.TOi1 (k.extBut _ _ D.TOz p2);show a_ (z8 C () (a_ (wpAny_updateSeq_pair C λg3 n u=>?_)))
 replace n:IsPair g3 f x b:=n
 show a_ (wpAny_letGo (f_ (a_ (a_ (wpAny_onRaise ?_)))));show(show wpAny _ _ (Builtin.SmallTypes.nextOf (.ref m)>>=_) _ _ _ from a_ (FM (i2.at λ_ e=>u.extBut _ _ D.TOi2.symm (r.extBut _ _ D.i12.symm (k.extBut _ _ D.i2z e))) (ll.at λ_ e=>u.extBut _ _ D.l2TO (r.extBut _ _ D.l2i1 (k.extBut _ _ D.l2z e))) hy λg4 S F=>f_ ?_))
 have G:IsPair g4 f x b:=F.extBut _ _ D.TOi2 n;show a_ (z8 G () (a_ (wpAny_updateSeq_pair G λd i H=>?_)))
 replace i:IsPair d f x y:=i
 show a_ (wpAny_letGo (f_ (f_ (a_ (z8 i () (a_ (wpAny_newTuple ?_)))))));have sz:d.objs.size=s.heap.objs.size:=by rw[H.1,F.1,u.1,r.1,k.1]
 have z5:IsZip d z h f .ellipsis:=H.extBut _ _ D.TOz.symm (F.extBut _ _ D.i2z.symm (u.extBut _ _ D.TOz.symm (r.extBut _ _ D.i1z.symm O)));have k5:Fy z f j m s.heap d:=λc o p K T U e=>H.extBut _ _ K (F.extBut _ _ U (u.extBut _ _ K (r.extBut _ _ T (k.extBut _ _ p e))));have V:d.IsTupleIter j t (L+1):=((R.extBut u.extBut D.TOi1.symm).extBut F.extBut D.i12).extBut H.extBut D.TOi1.symm;have W:qS c d m l (M+1):=S.at λ_ e=>H.extBut _ _ D.TOi2.symm e;have zl:z<d.objs.size:=j2 z5;show(show wpAny _ _ (Builtin.SmallTypes.ownedTupleHandOut (.ref z) (.ref d.objs.size)>>=_) _ _ _ from a_ ?_);unfold Builtin.SmallTypes.ownedTupleHandOut;have z6:IsZip (d.push {cls:=.type "tuple",data:=.seq #[x,y]}) z h f .ellipsis:=c_ _ z5;show a_ (sg z6 (by simp) λg7 X Y=>?_)
 replace X:IsZip g7 z h f (rawInt d.objs.size):=X
 show sg X (by simp) λI N s8=>?_
 replace N:IsZip I z h f (rawInt d.objs.size):=N
 have up:∀c ob,c≠z->d.get? c=some ob->I.get? c=some ob:=λc ob p e=>s8.extBut _ _ p (Y.extBut _ _ p (c_ _ e));have pn:IsPair I d.objs.size x y:=s8.extBut _ _ (op zl) (Y.extBut _ _ (op zl) (h_ _ ()));have J:I.objs.size=d.objs.size+1:=by rw[s8.1,Y.1,p_]
 rw[sz]at N pn J;show f_ {_,(),(show Q (.ref d.objs.size) _ from ?_)};rw[sz];show q I N (up _ _ D.TOz i) (V.at λob e=>up _ ob D.i1z e) (W.at λob e=>up _ ob D.i2z e) pn J λc ob p K T U e=>up c ob p (k5 c ob p K T U e)
def Bk(hh:A.handled=none)(D:ZipApart z i h m p t l)(j:IsZip s.heap z i h .none)(B:IsPair s.heap i (.ref m) (.ref p))(S:IsPair s.heap h a b)(C:s.heap.IsTupleIter m t F)(G:s.heap.IsTuple t H)(I:H[F]?=none)(q:∀g e,Fy z h m p s.heap g->(∃ob,g.get? e=some ob/\ob.cls=.type "StopIteration")->E (.ref e) {s with heap:=g}):wpAny (model P w) A (Builtin.«zip.__next__» {[.ref z],[]}) Q E s:=by
 show(show wpAny _ _ (field (.ref z) 2>>=_) _ _ _ from a_ (v_ j () (x:=.bool false) () ?_));show(show wpAny _ _ (field (.ref z) 3>>=_) _ _ _ from a_ (v_ j () (x:=.ref i) () (a_ (z8 B () ?_))));show(show wpAny _ _ (Builtin.SmallTypes.ownedTupleIsFree (.ref z)>>=_) _ _ _ from a_ ?_);unfold Builtin.SmallTypes.ownedTupleIsFree;show a_ (v_ j () (x:=.none) () (f_ ?_));simp only[Oj];show a_ (C2 (a_ (v_ j () (x:=.ref h) () (a_ (sg j (by simp) λJ n o=>?_)))))
 replace n:IsZip J z i h .ellipsis:=n
 show a_ ?_;simp only[List.zipIdx_cons,List.zipIdx_nil,N2,List.forIn_nil];show a_ (a_ (wpAny_onRaise (show wpAny _ _ (Builtin.SmallTypes.nextOf (.ref m)>>=_) _ _ _ from a_ (xM hh (C.extBut o.extBut D.i1z) (G.extBut o.extBut D.l1z) I λK e r L=>?_))));obtain⟨M,f,k⟩:=L;have u:IsZip K z i h .ellipsis:=r _ _ D.i1z.symm n;have N:e≠z:=λc=>by subst c;rw[u]at f;cases f;simp at k
 show sg u (by simp) λO _ v=>q O e (λc ob y _ R _ d=>v.extBut _ _ y (r _ _ R (o.extBut _ _ y d))) {M,v.extBut _ _ N f,k}
def Bm{c:Bool}{z i e f h t l:Addr}{j m:Nat}{n o:ON}{x y a b:Value}{Q:Option Value->Shared->Prop}(D:ZipApart z i e f h t l)(p:IsZip s.heap z i e .none)(r:IsPair s.heap i (.ref f) (.ref h))(u:IsPair s.heap e a b)(v:s.heap.IsTupleIter f t j)(B:qS c s.heap h l m)(C:s.heap.IsTuple t n)(G:qb c s.heap l o)(H:n[j]?=some x)(I:o[m]?=some y)(q:∀g,IsZip g z i e (rawInt s.heap.objs.size)->IsPair g e x y->g.IsTupleIter f t (j+1)->qS c g h l (m+1)->IsPair g s.heap.objs.size x y->g.objs.size=s.heap.objs.size+1->Fy z e f h s.heap g->Q (some (.ref s.heap.objs.size)) {s with heap:=g}):wpAny (model P w) A (pyNext (.ref z)) Q E s:=by have ty:s.TypeIs (.ref z) "zip":={_,p,()};unfold pyNext;show a_ (NE (ro (name:=Str.ofString "__next__") ty N3 (q_ N3 ty F.entry_zip_next (Bl D p r u v B C G H I λg a1 k J a4 K L M=>?_) (F.args_zip_next_1 _))));show f_ (q g a1 k J a4 K L M)
def CF(hh:A.handled=none)(D:ZipApart z h c f i t l)(j:IsZip s.heap z h c .none)(m:IsPair s.heap h (.ref f) (.ref i))(n:IsPair s.heap c a b)(o:s.heap.IsTupleIter f t p)(r:s.heap.IsTuple t u)(v:u[p]?=none)(q:∀g,Fy z c f i s.heap g->Q none {s with heap:=g}):wpAny (model P w) A (pyNext (.ref z)) Q E s:=by have ty:s.TypeIs (.ref z) "zip":={_,j,()};unfold pyNext;show a_ (NE (ro (name:=Str.ofString "__next__") ty N3 (q_ N3 ty F.entry_zip_next (Bk hh D j m n o r v λg e k x=>?_) (F.args_zip_next_1 _))));obtain⟨ob,h1,h2⟩:=x;show a_ (NJ (T:="StopIteration") (b:=true) (ob,h1,h2,) isSubtype_stop (f_ (q g k)))
abbrev FE(h:Heap)(t:Addr):Heap:=h.push {cls:=.type "tuple_iterator",data:=.fields #[.ref t,.int 0 0]}
abbrev LV(c:Bool)(h:Heap)(t l:Addr):Heap:=(FE h t).push {cls:=.type (cond c "list_iterator" "tuple_iterator"),data:=.fields #[.ref l,.int 0 0]}
abbrev LU(c:Bool)(h:Heap)(t l:Addr):Heap:=(LV c h t l).push {cls:=.type "tuple",data:=.seq #[.ref h.objs.size,.ref (FE h t).objs.size]}
abbrev LT(c:Bool)(h:Heap)(t l:Addr):Heap:=(LU c h t l).push {cls:=.type "tuple",data:=.seq #[.none,.none]}
abbrev Kl(c:Bool)(h:Heap)(t l:Addr):Heap:=(LT c h t l).push {cls:=.type "zip",data:=.fields #[.none,.bool false,.bool false,.ref (LV c h t l).objs.size,.ref (LU c h t l).objs.size]}
def zP(c:Bool)(t l:Addr)(a f:ON):Meets (Builtin.«zip.__new__» {[.type "zip",.ref t,.ref l],[]}) (λ_ R s=>s.heap.IsTuple t a/\qb c s.heap l f/\R (.ok (.ret (.ref (LT c s.heap t l).objs.size))) {s with heap:=Kl c s.heap t l}):=.of_wp λprog w A R s h=>by
  obtain⟨b,g,d,tk,os⟩:=s;obtain⟨h1,h2,h⟩:=h;have i:=sub_zip;have j:Heap.IsTuple (Shared.heap (b,g,d,tk,os,)) t a:=h1;have k:qb c (Shared.heap {b.push {cls:=.type "tuple_iterator",data:=.fields #[.ref t,.int 0 0]},g,d,tk,os}) l f:=h2.at λ_ e=>c_ _ e
  wp_walk using M6 j,AC k
  show{_,(),h}
def Cr{c:Bool}{t l:Addr}{h i:ON}{Q:OG}(h1:s.heap.IsTuple t h)(h2:qb c s.heap l i)(q:∀g,IsZip g (s.heap.objs.size+4) (s.heap.objs.size+2) (s.heap.objs.size+3) .none->IsPair g (s.heap.objs.size+2) (.ref s.heap.objs.size) (.ref (s.heap.objs.size+1))->IsPair g (s.heap.objs.size+3) .none .none->g.IsTupleIter s.heap.objs.size t 0->qS c g (s.heap.objs.size+1) l 0->(∀c o,s.heap.get? c=some o->g.get? c=some o)->Q (.ref (s.heap.objs.size+4)) {s with heap:=g}):wpAny (model P w) A (call (.type "zip") [.ref t,.ref l]) Q E s:=by
 show callType_new F.called_zip (by decide) (F.typeCall_zip_2 _ _) (F.newCall_zip_2 _ _) (λob=>F.args_object_init_3 ob _ _) F.entry_zip_new (zP c t l h i) {h1,h2,?_};have a:(FE s.heap t).objs.size=s.heap.objs.size+1:=p_ ..;have b:(LV c s.heap t l).objs.size=s.heap.objs.size+2:=by rw[p_,a]
 have e:(LU c s.heap t l).objs.size=s.heap.objs.size+3:=by rw[p_,b]
 have j:(LT c s.heap t l).objs.size=s.heap.objs.size+4:=by rw[p_,e]
 have f:(Kl c s.heap t l).get? (LT c s.heap t l).objs.size=some _:=h_ _ ();have k:(Kl c s.heap t l).get? (LU c s.heap t l).objs.size=some _:=c_ _ (h_ _ ());have m:(Kl c s.heap t l).get? (LV c s.heap t l).objs.size=some _:=c_ _ (c_ _ (h_ _ ()));have n:(Kl c s.heap t l).get? (FE s.heap t).objs.size=some _:=c_ _ (c_ _ (c_ _ (h_ _ ())));have p:(Kl c s.heap t l).get? s.heap.objs.size=some _:=c_ _ (c_ _ (c_ _ (c_ _ (h_ _ ()))));change _/\_;rw[b,e,j]at f;rw[a,b]at m;rw[e]at k;rw[a]at n;rw[j];show{{_,f,()},q _ f m k {_,p,(),()} {_,n,(),()} λc ob d=>c_ _ (c_ _ (c_ _ (c_ _ (c_ _ d))))}
end
def kF{X:Cx}{a:OH}{g:St}{H:Hp}{s:Shared}{h':Heap}{t':Nat}{ch:OP}(I:aN X a g H s)(k:∀b o,b∉ch->s.heap.get? b=some o->h'.get? b=some o)(f:∀b∈ch,vk X a H b):aN X a g H {s with heap:=h',toks:=t'}:=by
 have d:∀b u,H b=some u->b∉ch:=λb u e z=>by rw[(f b z).1]at e;cases e
 show I.step (g':=s.gens) (d':=s.drawn) (ch:=ch) (λb h=>?_) (λb o _ _ hc e _=>k b o hc e) (λb o _ _ hc e _=>{o.slots,k b o hc e}) (λ_ _ _ _ n=>n) (λb o hc e=>{o,k b o hc e}) (λ_ _ e=>e) (λ_ _ _ e=>e) (λb y e=>{#[],by rw[e];simp}) (λm hm=>?_) (λb u e=>?_) I.bare
 ·obtain⟨_,f1,_,f3,i,j⟩:=f b h;show(f3,f1,i,j,)
 ·obtain⟨o,l,p,t,r⟩:=hm;show{o,l,p,k _ o (λz=>(f _ z).2.1 ()) t,r}
 ·show(I.hok b u e).stay (λc v hc q=>k c v ?_ q) (λ_ q=>q) λ_ _ q=>q;rcases hc with z|z
  ·rw[z];show d b u e
  ·show d c _ z
def LR(c:Bool)(K:OF)(t l:Addr):It:={λi H=>∃a b x y,aS K H t a/\Hx c K H l b/\a[i]?=some x/\b[i]?=some y,λi H v d=>∃T x y,H T=none/\v=.ref T/\d=aH H T (.tup [x,y])/\∀a b,aS K H t a->Hx c K H l b->a[i]?=some x/\b[i]?=some y,λi H=>∃a,aS K H t a/\a.length<=i}
def CN{c:Bool}{P:OK}{w:World}{K:OF}{J:OM}{x1:Nat}{Q:Pos}{z j m n q t l:Addr}(D:ZipApart z j m n q t l):vh P w K (.Tuple J x1 Q) (LR c K t l) [z,j,m,n,q] z (λi h=>IsZip h z j m .none/\IsPair h j (.ref n) (.ref q)/\(∃a b,IsPair h m a b)/\h.IsTupleIter n t i/\qS c h q l i)where
 mem:=by simp
 obj:=λi h st b d=>by
  obtain⟨a1,r,⟨_,_,A⟩,⟨al,a4,_,d4⟩,⟨an,C,_,d5⟩⟩:=st;simp only[so,o_,ML]at d;rcases d with rfl|rfl|rfl|rfl|rfl
  ·show{_,a1,λv e=>by cases e}
  ·show{_,r,λv e=>by cases e}
  ·show{_,A,λv e=>by cases e}
  ·show{_,a4,λv e=>by rw[d4]at e;cases e}
  ·show{_,C,λv e=>by rw[d5]at e;cases e}
 keep:=λi h h' st k=>by obtain⟨a1,r,⟨a,b,A⟩,a4,C⟩:=st;show{k z (by simp) _ a1,k j (by simp) _ r,{a,b,k m (by simp) _ A},a4.at λob e=>k n (by simp) ob e,C.at λob e=>k q (by simp) ob e}
 item:=by
  intro X O R S hc i B s σ H E I N st hg;subst O R S;obtain⟨xs,ys,x,y,L,T,U,hy⟩:=hg;obtain⟨F,V,p,hz⟩:=I.tuple L;obtain⟨ad,Y,p2,Z⟩:=I.sqE T;obtain⟨u,hu,ru⟩:=V.get U;obtain⟨u2,aa,ac⟩:=Y.get hy;obtain⟨a1,r,⟨a,b,A⟩,a4,C⟩:=st;show Bm D a1 r A a4 C (show s.heap.IsTuple t F.toArray from p) p2 (x:=u) (y:=u2) (by simpa using hu) (by simpa using aa) λg b1 b2 b3 b4 b5 b6 off=>?_;show{_,(),wpAny_letOwnedTupleGo_zip b1 λg' c1 G=>?_};have lt:∀c∈[z,j,m,n,q],c≠s.heap.objs.size:=λc M e=>by
   have hs:∃ob,s.heap.get? c=some ob:=by
    simp only[so,o_,ML]at M;rcases M with rfl|rfl|rfl|rfl|rfl
    ·show{_,a1}
    ·show{_,r}
    ·show{_,A}
    ·obtain⟨ob,e,_⟩:=a4;show(ob,e,)
    ·obtain⟨ob,e,_⟩:=C;show(ob,e,)
   obtain⟨ob,h⟩:=hs;rw[e]at h;show absurd (j2 h) (rV _)
  have fresh:H s.heap.objs.size=none:=I.hok.fresh (e_ _);have I1:aN X B σ (aH H s.heap.objs.size (.tup [x,y])) {s with heap:=s.heap.push {cls:=.type "tuple",data:=.seq #[u,u2]},toks:=s.toks}:=I.laid (λb o e=>c_ _ e) (e_ _) {by rw[ji];simp,[u,u2],.cons ru (.cons ac .nil),{_,h_ _ (),(),_,()}}
  have I2:=kF (h':=g') (t':=s.toks) (ch:=[z,j,m,n,q]) I1 (λb o d e=>?_) (λb d=>?_)
  ·show{.ref s.heap.objs.size,_,I2,(),{_,x,y,fresh,(),(),λap as h1 h2=>{by rw[I.tuple_inj h1 L];show U,by rw[Z _ h2];show hy}},{c1,G.extBut _ _ D.TIz (off _ _ D.TIz D.TITO D.TIi1 D.TIi2 r),{_,_,G.extBut _ _ D.TOz b2},b3.extBut G.extBut D.i1z,b4.at λ_ e=>G.extBut _ _ D.i2z e},λb d=>?_};rw[aq (lt b d)];show(N b d).1
  ·have f:b≠z/\b≠j/\b≠m/\b≠n/\b≠q:=by simpa using d
   by_cases eb:b=s.heap.objs.size
   ·subst eb;rw[h_ _ ()]at e;cases e;show G.extBut _ _ f.1 b5
   ·have e':s.heap.get? b=some o:=by
     rcases Nl e with⟨z2,_⟩|e2
     ·show absurd z2 eb
     ·show e2
    show G.extBut _ _ f.1 (off b o f.1 f.2.2.1 f.2.2.2.1 f.2.2.2.2 e')
  ·obtain⟨f0,f1⟩:=N b d;show{by rw[aq (lt b d)];show f0,f1}
 done:=by
  intro X O R S hc i B s σ H E I N st hg;subst O R S;obtain⟨xs,hq,U⟩:=hg;obtain⟨F,V,p,hz⟩:=I.tuple hq;have hl:=V.length;obtain⟨a1,r,⟨a,b,A⟩,a4,C⟩:=st;show CF (I.ok.hd hc) D a1 r A a4 (show s.heap.IsTuple t F.toArray from p) (by simp;lia) λg off=>{(),kF (t':=s.toks) (ch:=[z,j,m,n,q]) I (λb o d e=>?_) N};have f:b≠z/\b≠j/\b≠m/\b≠n/\b≠q:=by simpa using d
  show off b o f.1 f.2.2.1 f.2.2.2.1 f.2.2.2.2 e
 self:=λ_ _ _ _ _ st h=>wpAny_pyIter_zip st.1 h
end L2
namespace L2
open PySem PySem.Spec PyProof.Rows PySem.W
def Mj{K:OF}{w:World}{pm:Params}{a:Addr}(h:w.params=pm)(k:HB K pm a):HB K w.params a:=h▸k
def gl(c:Nat):List (List Nat)->List Nat|[]=>[]|[x]=>x|x::y::r=>x++c::gl c (y::r)
abbrev dE(P:OK)(w:World)(d:Addr)(a:List (bK×V))(c:Nat):HO:=.ext λh=>((d==sysModules)=false/\a.length<=sizeLine)/\∃b,KV a b/\h.DictAt (aV P w) d b c
theorem w9:∀{a:List (bK×V)}{e:List (bK×Value)},KV a e->∀(i:Nat)(k:bK)(v:V),a[i]?=some (k,v)->∃u,e[i]?=some (k,u)/\a0 v u|_,_,.nil,i,k,v,h=>by simp at h|_,_,.cons (b:=q) ⟨c,d⟩ t,i,k,v,h=>by cases i with|zero=>simp at h;subst h;obtain⟨f,u⟩:=q;have c:k=f:=c;subst c;show{u,(),d}|succ i=>obtain⟨u,h1,h2⟩:=w9 t i k v (by simpa using h);show{u,by simpa using h1,h2}
def AW(h:(aV P w).is k u=true):a0 (kV k) u:=by
 rcases kU.flat (P:=P) (w:=w) (h:=default) (k:=k) (v:=u) h with⟨i,t,rfl,rfl⟩|⟨z,t,rfl,rfl⟩
 ·show{t,()}
 ·show{t,()}
section
variable{X:Cx}{g:OH}{j:St}{H:Hp}{s:Shared}{d:Addr}{f:List (bK×V)}{i:Nat}
def aN.walk(I:aN X g j H s)(h:H d=some (.dK f)):∃i l,KV f l/\s.heap.DictAt (aV X.prog X.w) d l i/\(d==sysModules)=false/\aN X g j (aH H d (dE X.prog X.w d f i)) s:=by obtain⟨t,p,l,q,m⟩:=I.hok d _ h;obtain⟨i,n⟩:=m.dictAt;obtain⟨o,u,r,_⟩:=id n;show{i,l,q,n,p,?_};have J:=I.write (h':=s.heap) (t':=s.toks) (x:=d) (e:=d) (o:=dE X.prog X.w d f i) (by rw[h];show True.intro) (.inl ()) (λ_ _ _ e=>e) (o,r,) {{(p,t,),l,q,n},(o,r,),λ_ _⟨a,l,b,c⟩k=>{a,l,b,c.at' k}};show J
def aN.thaw(I:aN X g j H s)(h:H d=some (dE X.prog X.w d f i)):aN X g j (aH H d (.dK f)) s:=by obtain⟨⟨⟨a,b⟩,c,k,l⟩,⟨o,m⟩,_⟩:=I.hok d _ h;have J:=I.write (h':=s.heap) (t':=s.toks) (x:=d) (e:=d) (o:=.dK f) (by rw[h];show True.intro) (.inl ()) (λ_ _ _ e=>e) (o,m,) (b,a,c,k,l.dictOf,);show J
end
def L4(P:OK)(w:World)(d:Addr)(a:List (bK×V))(c:Nat)(f:bK×V->V):It:={λi H=>H d=some (dE P w d a c)/\i<a.length,λi H x b=>b=H/\a[i]?.map f=some x,λi H=>H d=some (dE P w d a c)/\a.length<=i}
def Bq{P:OK}{w:World}{K:OF}{Q:Expr}(d g:Addr)(a:List (bK×V))(n:Nat):vh P w K Q (L4 P w d a n λp=>kV p.1) [g] g (λi h=>h.IsKeyIter g d i a.length n)where
 mem:=by simp
 obj:=λi h st b l=>by
  have e:b=g:=by simpa using l
  subst e;obtain⟨o,e,c,x⟩:=st;show{o,e,λv z=>by rw[x]at z;cases z}
 keep:=λi h h'⟨o,e,r⟩k=>{o,k g (by simp) o e,r}
 item:=by intro X y A B hc i j s M H E I q st hg;subst y A B;obtain⟨hd,hi⟩:=hg;obtain⟨⟨_,C,t,D⟩,_⟩:=I.hok d _ hd;have f:a.length=C.length:=Paired.length t;obtain⟨F,f1,f2,f3,G,J⟩:=q g (by simp);have N:a[i]?=some a[i]:=il hi;obtain⟨u,O,ru⟩:=w9 t i a[i].1 a[i].2 N;have st:s.heap.IsKeyIter g d i a.length n:=st;rw[f]at st;show wpAny_pyNext_dict_item st D O λL h' R m S=>?_;have I1:aN X j M H {s with heap:=h'}:=I.turned (t':=s.toks) (λb o l e=>(S.2 b l).trans e) F f1 f3 G J;obtain⟨o,e,c,x⟩:=id m;rw[<-f]at m;show{L,(),vU (s:={s with heap:=h'}) e c x (by decide) {kV a[i].1,H,I1,AW R,{(),by rw[N];rfl},m,λb l=>(q b l).1}}
 done:=by intro X y A B hc i j s M H E I q st hg;subst y A B;obtain⟨hd,hi⟩:=hg;obtain⟨⟨_,C,t,D⟩,_⟩:=I.hok d _ hd;have f:a.length=C.length:=Paired.length t;obtain⟨F,f1,f2,f3,G,J⟩:=q g (by simp);have st:s.heap.IsKeyIter g d i a.length n:=st;rw[f]at st;show wpAny_pyNext_dict_end (I.ok.hd hc) st D (rm (by lia)) λh' U=>{(),I.turned (t':=s.toks) (λb o l e=>U b o l e) F f1 f3 G J}
 self:=λ_ _ _ _ _ st h=>wpAny_pyIter_keyiter st h
def Bo{P:OK}{w:World}{K:OF}{N:Expr}(d g:Addr)(a:List (bK×V))(n:Nat):vh P w K N (L4 P w d a n λp=>p.2) [g] g (λi h=>h.IsValIter g d i a.length n)where
 mem:=by simp
 obj:=λi h st b l=>by
  have e:b=g:=by simpa using l
  subst e;obtain⟨o,e,c,x⟩:=st;show{o,e,λv z=>by rw[x]at z;cases z}
 keep:=λi h h'⟨o,e,r⟩k=>{o,k g (by simp) o e,r}
 item:=by intro X y A B hc i j s L H E I q st hg;subst y A B;obtain⟨hd,hi⟩:=hg;obtain⟨⟨_,C,t,D⟩,_⟩:=I.hok d _ hd;have f:a.length=C.length:=Paired.length t;obtain⟨F,f1,f2,f3,G,J⟩:=q g (by simp);have M:a[i]?=some a[i]:=il hi;obtain⟨u,O,ru⟩:=w9 t i a[i].1 a[i].2 M;have st:s.heap.IsValIter g d i a.length n:=st;rw[f]at st;show wpAny_pyNext_values_item st D O λh' m Q=>?_;have I1:aN X j L H {s with heap:=h'}:=I.turned (t':=s.toks) (λb o l e=>(Q.2 b l).trans e) F f1 f3 G J;obtain⟨o,e,c,x⟩:=id m;rw[<-f]at m;show{u,(),vU (s:={s with heap:=h'}) e c x (by decide) {a[i].2,H,I1,ru,{(),by rw[M];rfl},m,λb l=>(q b l).1}}
 done:=by intro X y A B hc i j s L H E I q st hg;subst y A B;obtain⟨hd,hi⟩:=hg;obtain⟨⟨_,C,t,D⟩,_⟩:=I.hok d _ hd;have f:a.length=C.length:=Paired.length t;obtain⟨F,f1,f2,f3,G,J⟩:=q g (by simp);have st:s.heap.IsValIter g d i a.length n:=st;rw[f]at st;show wpAny_pyNext_values_end (I.ok.hd hc) st D (rm (by lia)) λh' S=>{(),I.turned (t':=s.toks) (λb o l e=>S b o l e) F f1 f3 G J}
 self:=λ_ _ _ _ _ st h=>wpAny_pyIter_valiter st h
section
variable{X:Cx}{P:OK}{w:World}{j l o e:Expr}{a g te:TE}
def LB(P:OK)(w:World)(a:TE):TI:=λk H R=>a k H λx f=>∃d b,x=.ref d/\f d=some (.dK b)/\∀h,R (L4 P w d b h λp=>kV p.1) (aH f d (dE P w d b h))
def Gz(u:PE X l a)(y:X.prog=P:=by rfl)(z:X.w=w:=by rfl):PI X j l (LB P w a):=by
 subst y z;intro f s t H R I h;show cw (u f s t H _ I h) λv n A=>?_;obtain⟨x,J,I1,B,d,k,e,hd,q⟩:=A;subst e;obtain rfl:v=Value.ref d:=B;obtain⟨r,C,D,E,F,p⟩:=I1.walk hd;have m:k.length=C.length:=Paired.length D;show wpAny_pyIter_dict F E ?_;show{n.heap.objs.size,[n.heap.objs.size],_,_,_,(),p.kept (t':=n.toks) λb o e=>c_ _ e,Bq d _ k r,{_,h_ _ (),(),by rw[m];rfl},λb G=>?_,q r};have e:b=n.heap.objs.size:=by simpa using G
 subst e;show p.fpOk (e_ _) (p.hok.fresh (e_ _))
def Lx(P:OK)(w:World)(g:TE):TI:=λk H R=>g k H λx f=>∃d b,x=.ref d/\f d=some (.dK b)/\∀h,R (L4 P w d b h λp=>p.2) (aH f d (dE P w d b h))
def Mc(P:OK)(w:World)(t:TE):TE:=λh H Q=>t h H λv f=>∃d b k,f d=some (dE P w d b k)/\Q v (aH f d (.dK b))
def Jj(h:PE X e te)(f:X.prog=P:=by rfl)(m:X.w=w:=by rfl):PE X e (Mc P w te):=by subst f m;intro b s k H Q I n;show cw (h b s k H _ I n) λu x p=>?_;obtain⟨v,y,I1,r,d,t,z,hd,q⟩:=p;show{v,_,I1.thaw hd,r,q}
def KM(P:OK)(w:World)(t:TS):TS:=λD k H=>t {D with nx:=λf h=>∃d b m,h d=some (dE P w d b m)/\D.nx f (aH h d (.dK b))} k H
def zC{st:Stmt}{t:TS}(h:PS X st t)(m:X.prog=P:=by rfl)(n:X.w=w:=by rfl):PS X st (KM P w t):=by subst m n;intro b s p H D I r;show wpAny_mono (h b s p H _ I r) (λf y z=>?_) λ_ _ z=>z;cases f with|next=>obtain⟨k,A,v,d,x,B,hd,q⟩:=z;show{k,_,v.thaw hd,q}|brk=>show z|cont=>show z|ret u=>show z
end
section
variable{X:Cx}{P:OK}{w:World}{i o e:Expr}{g ty:TE}{f c:Pos}
def Gx(D:PE X o g)(E:X.prog=P:=by rfl)(G:X.w=w:=by rfl)(m:attributeBase o "values" X.env (eval o X.env)=eval o X.env:=by rfl)(n:(f.endLine==c.line)=true:=by rfl):PI X i (.Call (.Attribute o "values" f) [] [] c) (Lx P w g):=by
 subst E G;intro k s J H R I h;show wpAny_Call_method0_late m n (cw (D k s J H _ I h) λv a K=>?_);obtain⟨x,V,I1,L,d,r,e,hd,q⟩:=K;subst e;obtain rfl:v=Value.ref d:=L;obtain⟨B,C,M,t,N,O⟩:=I1.walk hd;have u:r.length=C.length:=Paired.length M;obtain⟨ob,W,y,Q,_⟩:=id t;show{"dict","dict.values",PySem.F.plainAttrs_dict,PySem.F.slot_dict_values,PySem.F.type_dict_values,t.dictOf.typeIs,?_,tA () (PySem.evalArgs_none (MK PySem.F.slot_dict_values t.dictOf.typeIs PySem.F.entry_dict_values (PySem.F.args_dict_values_1 _) (meets_dict_values (aV X.prog X.w) d N) {(C,t.dictOf,),?_}))}
 ·intro b z;cases z;show(ob,y,Q.2.1,)
 ·have S:(a.heap.push {cls:=.type "dict_values",data:=.fields #[.ref d]}).IsValuesView a.heap.objs.size d:={_,h_ _ (),(),()};change wpAny _ _ (pyIter (.ref a.heap.objs.size)) _ _ _;have A:=O.kept (h':=a.heap.push {cls:=.type "dict_values",data:=.fields #[.ref d]}) (t':=a.toks) λb o e=>c_ _ e;show wpAny_pyIter_values (s:={a with heap:=a.heap.push {cls:=.type "dict_values",data:=.fields #[.ref d]}}) S (t.push _) ?_;show{_,[(a.heap.push {cls:=.type "dict_values",data:=.fields #[.ref d]}).objs.size],_,_,_,(),A.kept (t':=a.toks) λb o e=>c_ _ e,Bo d _ r B,{_,h_ _ (),(),by rw[u];rfl},λb U=>?_,q B};have e:b=(a.heap.push {cls:=.type "dict_values",data:=.fields #[.ref d]}).objs.size:=by simpa using U
  subst e;show A.fpOk (e_ _) (A.hok.fresh (e_ _))
def KG(K:OF)(a:Addr)(ty:TE):TE:=λd H Q=>ty d H λy b=>∃x r,y=.str x/\PySem.W.nsIn K a x=some r/\((r=none/\Q .non b)\/∃u v,r=some u/\a0 v u/\Q v b)
def GB(K:OF)(L:X.K=K)(hd:HB K X.w.params a)(hg:Gl X x)(hm:X.mg x=some (.ref a))(M:PE X e ty)(m:M1 X (.Name x A) "get" f e c)(B:(x==("__debug__":Str))=false:=by decide):PE X (.Call (.Attribute (.Name x A) "get" f) [e] [] c) (KG K a ty):=by
 subst L;intro d s E H Q I h;obtain⟨lo,es,n,t,G⟩:=hd;have hn:PE X (.Name x A) (tC (.ref a)):=AO hg hm () B;show M_ m.base m.few m.line PySem.F.plainAttrs_dict PySem.F.slot_dict_get PySem.F.type_dict_get (cw (hn d s E H (λv N=>v=.ref a/\N=H) I {(),()}) λu O⟨z,R,I1,S,T,U⟩=>?_);subst T U;obtain rfl:u=Value.ref a:=S;have C:=PySem.W.mapOf_K (prog:=X.prog) (w:=X.w) I1.kIn t G;show{C.typeIs,λb z=>by cases z;show{_,I1.kIn _ _ t,()},?_};rw[m.trees];show tA () (z_ (th (cw (M d O E R _ I1 h) λiv s2 V=>?_)));obtain⟨y,J,D,Y,Z,r,ey,hu,q2⟩:=V;show B_ ?_;subst ey;obtain⟨tk,rfl⟩:=Y;have k:=PySem.W.mapOf_K (prog:=X.prog) (w:=X.w) D.kIn t G;show MK PySem.F.slot_dict_get k.typeIs PySem.F.entry_dict_get (PySem.F.args_dict_get_2 _ _) (meets_dict_get (strKind X.prog X.w) a (PySem.strKind_is X.prog X.w Z tk) lo) {_,k,?_};rw[PySem.W.find_K t hu];rcases q2 with⟨rfl,q⟩|⟨u',v',rfl,rv,q⟩
 ·show{.non,J,D.tok _,(),q}
 ·show{v',J,D.tok _,rv,q}
end
end L2
namespace L2
open PySem PySem.W PyProof.Rows
section
variable{M:Model}{A:Around}{E:OG}
def B3{C D N J:Addr}{nm q m L:Str}{bs n o a:OJ}{hd P sub R p r u c v i}{dd w:Option Addr}{S T W X Z x y z B F:Option Value}{id G:String}{s:Shared}{e:Addr}{H:Obj}{Q:Bool->Shared->Prop}(hC:s.heap.get? C=some (excClassObj nm q C N bs o hd P sub R p dd S T W X Z id))(I:s.heap.get? D=some (excClassObj m L D J n a r u c v i w x y z B F G))(he:s.heap.get? e=some H)(j:H.cls=.ref C)(hb:a.contains (.type "BaseException")=true)(l:Q ((Value.ref C::o).contains (.ref D)) s):wpAny M A (excMatches (.ref e) (.ref D)) Q E s:=by
 obtain⟨h,g,d,t,os⟩:=s;have b:(Value.ref D::a).contains (.type "BaseException")=true:=by rw[List.contains_cons,hb,Bool.or_true]
 have f:=tc_notTuple;unfold excMatches
 repeat(first|(with_reducible show wpAny_loadPart_at he ?_;rw[j])|with_reducible show wpAny_loadPart_at I ?_|(with_reducible show wpAny_isSubtype_exc I ?_;rw[b])|(with_reducible show wpAny_isSubtype_exc hC ?_)|wp_step)
 cases hc:(Value.ref C::o).contains (Value.ref D)with|true=>rw[hc]at l;rw[i_ ()];show f_ (f_ (f_ l))|false=>rw[hc]at l;rw[iA kw];show f_ (f_ (f_ l))
end
def Kg(K:OF)(C:Addr)(a:OJ):Prop:=∃b dd cd sl,K.lookup C=some {b,dd,.cls cd,sl}/\cd.mro=.ref C::a
def Kg.is{K:OF}{C:Addr}{f c:OJ}{h:Heap}{o:Obj}{a:ClassData}(m:Kg K C f)(kin:K.In h)(e:h.get? C=some o)(hd:o.data=.cls a)(hm:a.mro=.ref C::c):c=f:=by obtain⟨d,dd,cd,sl,l,r⟩:=m;have b:=kin _ _ l;rw[e]at b;cases b;have hd:Data.cls cd=Data.cls a:=hd;cases hd;rw[hm]at r;show(List.cons.inj r).2
end L2
namespace L2
open PySem PySem.Spec PyProof.Rows PySem.W
section
variable{X:Cx}
def Lw(K:OF)(e:TA):TI:=λb H R=>e b H λd a=>∃t l g h,d=[.ref t,.ref l]/\aS K a t g/\∃c,Hx c K a l h/\R (LR c K t l) a
def Gw(K:OF)(D:X.K=K){i:OM}{E:Nat}{j:Pos}{a b:Expr}{z:TA}{p m:Pos}(hg:Gl X "zip")(hm:X.mg "zip"=none)(F:PA X [a,b] z)(G:starEach [a,b] X.env=[(false,eval a X.env),(false,eval b X.env)]:=by rfl)(n:starEach [b] X.env=[(false,eval b X.env)]:=by rfl):PI X (.Tuple i E j) (.Call (.Name "zip" p) [a,b] [] m) (Lw K z):=by
 subst D;intro k s J H R I h;show y3 (kW I hg hm Fk (F_ (cw (F m k s J H _ I h) λus d L=>?_) (by rw[G,n]) (by rw[n];rfl)));obtain⟨vs,M,I1,N,t,l,xs,ys,e,w,c,x,q⟩:=L;subst e;obtain⟨u,v,rfl,rt,O⟩:=vo N;obtain rfl:u=Value.ref t:=rt;obtain rfl:v=Value.ref l:=O;obtain⟨y,rv,pl,hz⟩:=I1.tuple w;obtain⟨A,P,o,Q⟩:=I1.sqE x;obtain⟨o1,S,_⟩:=id pl;obtain⟨o2,T,_⟩:=id o;show Cr (show d.heap.IsTuple t y.toArray from pl) o λg B U V Y Z kk=>?_;show wpAny_pyIter_zip B {_,[d.heap.objs.size+4,d.heap.objs.size+2,d.heap.objs.size+3,d.heap.objs.size,d.heap.objs.size+1],_,_,M,(),I1.kept (t':=d.toks) kk,CN (ktu_apart d.heap.objs.size t l (j2 S) (j2 T)),{B,U,{_,_,V},Y,Z},λb C=>?_,q};have r:d.heap.objs.size<=b:=by simp only[so,o_,ML]at C;rcases C with rfl|rfl|rfl|rfl|rfl<;>first|show e_ _|show Nat.le_add_right _ _
 show I1.fpOk r (I1.hok.fresh r)
def Cq{K:OF}{a l:Addr}{xs ys:List V}{g:TG}{ds:OO}{k:Nat}{tc:TT}{te:TE}{E:St}{n:Hp}{F:Addr->Hp->Prop}(Pv:Addr->Nat->List V->Hp->Prop)(s:aW K n l ys\/aS K n l ys)(h0:∀D,n D=none->Pv D 0 [] (aH n D (.lst [])))(w:xs.length=ys.length)(G:∀D i h j,Pv D i h j->aS K j a xs/\ao n j)(H:∀D i x y h j T,n D=none->xs[i]?=some x->ys[i]?=some y->Pv D i h j->j T=none->g (.ref T) (iE ds k E) (aH j T (.tup [x,y])) λo A=>tc o A λb u=>if b=true then te o u λy v=>v D=some (.lst h)/\h.length<sizeLine/\∃r,r<xs.length-i/\r=xs.length-(i+1)/\i+1<=xs.length/\Pv D (i+1) (h++[y]) (aH v D (.lst (h++[y])))else∃r,r<xs.length-i/\r=xs.length-(i+1)/\i+1<=xs.length/\Pv D (i+1) h u)(hd:∀D h j,n D=none->Pv D xs.length h j->F D j):∃c,Hx c K n l ys/\∀D,n D=none->∃W:Nat->Nat->List V->Hp->Prop,(∃m,W 0 m [] (aH n D (.lst [])))/\∀i m h j,W i m h j->((LR c K a l).stop i j/\F D j)\/((LR c K a l).go i j/\∀x B,(LR c K a l).yld i j x B->g x (iE ds k E) B λo A=>tc o A λb u=>if b=true then te o u λy v=>v D=some (.lst h)/\h.length<sizeLine/\∃r,r<m/\W (i+1) r (h++[y]) (aH v D (.lst (h++[y])))else∃r,r<m/\W (i+1) r h u):=by
 obtain⟨c,hc,I⟩:∃c,Hx c K n l ys/\∀j,ao n j->Hx c K j l ys:=by
  rcases s with s|s
  ·show{true,s,λ_ z=>z.seq s}
  ·show{false,s,λ_ z=>ao.tseq z s}
 show{c,hc,λD C=>{λi m h j=>m=xs.length-i/\i<=xs.length/\Pv D i h j,{_,(),np _,h0 D C},?_}};rintro i m h j⟨rfl,hi,p⟩;obtain⟨q,t⟩:=G D i h j p;have t:=I j t
 by_cases d:i<xs.length
 ·show .inr {{xs,ys,xs[i],ys[i],q,t,by simp[d],by simp[<-w,d]},λx B y=>?_};obtain⟨T,J,L,M,e,N,y⟩:=y;subst e N;obtain⟨O,P⟩:=y xs ys q t;show H D i J L h _ T C O P p M
 ·have e:i=xs.length:=Nat.le_antisymm hi (Ov d);subst e;show .inl {{xs,q,e_ _},hd D h j C p}
end
def E5(hh:A.handled=none)(c t:Addr)(ne:t≠c)(a:ON):Draws P w A c [c,t] a.size (λi v=>a[i]?=some v) (λi h=>h.IsTupleIter c t i/\h.IsTuple t a)where
 live:=λ_ _ st=>let⟨o,e,_⟩:=st.1;(o,e,)
 frame:=λ_ _ _ st k=>{st.1.at λo e=>k c (by simp) o e,st.2.at λo e=>k t (by simp) o e}
 item:=λi s Q E hi st q=>sM st.1 st.2 (v:=a[i]) (by simp[hi]) λg d b=>q _ g s.toks (by simp[hi]) {d,st.2.extBut b.extBut ne} b
 done:=λs Q E st q=>xM hh st.1 st.2 (by simp) q
def yD(t:Addr)(a:ON)(n:Nat)(f:Option Addr)(sl:Array (Option Value)):Meets (Builtin.«enumerate.__new__» {[.type "enumerate",.ref t],[]}) (λ_ R s=>s.heap.get? t=some {cls:=.type "tuple",dict:=f,data:=.seq a n,slots:=sl}/\R (.ok (.ret (.ref (FE s.heap t).objs.size))) {s with heap:=(FE s.heap t).push {cls:=.type "enumerate",data:=.fields #[.none,.bool false,.ref s.heap.objs.size,rawInt 0,.none,.none]}}):=.of_wp λprog w A R s h=>by
  obtain⟨i,g,d,tk,os⟩:=s;obtain⟨b,h⟩:=h;have f1:=sub_enumerate;have e:Heap.IsTuple (Shared.heap (i,g,d,tk,os,)) t a:={_,b,(),n,()}
  wp_walk using NI b
  show wpAny_stack_any λst=>f_ ?_
  split
  ·rename_i c _ _ _ _ _;cases(c==Value.type "enumerate")<;>(wp_walk using NI b,M6 e)<;>show{_,(),h}
  ·wp_walk using NI b,M6 e
   show{_,(),h}
def Al(i:s.heap.IsTuple t a)(q:∀g,IsEnum g (s.heap.objs.size+1) s.heap.objs.size 0 .none->g.IsTupleIter s.heap.objs.size t 0->(∀b o,s.heap.get? b=some o->g.get? b=some o)->Q (.ref (s.heap.objs.size+1)) {s with heap:=g}):wpAny (model P w) A (call (.type "enumerate") [.ref t]) Q E s:=by
 obtain⟨⟨c,j,l,sl⟩,k,d,n,e⟩:=i;simp only at d e;subst d e;show callType_new F.called_enumerate (by decide) (F.typeCall_enumerate_1 _) (F.newCall_enumerate_1 _) (λob=>F.args_object_init_2 ob _) F.entry_enumerate_new (yD t a n j sl) {k,?_};have f:(FE s.heap t).objs.size=s.heap.objs.size+1:=p_ ..;change _/\_;rw[f];have h:IsEnum ((FE s.heap t).push {cls:=.type "enumerate",data:=.fields #[.none,.bool false,.ref s.heap.objs.size,rawInt 0,.none,.none]}) (s.heap.objs.size+1) s.heap.objs.size 0 .none:=by have z:=h_ (FE s.heap t) (o:={cls:=.type "enumerate",data:=.fields #[.none,.bool false,.ref s.heap.objs.size,rawInt 0,.none,.none]}) ();rw[f]at z;show z
 show{{_,h,()},q _ h {_,c_ _ (h_ _ ()),(),()} λb o x=>c_ _ (c_ _ x)}
def Ite(K:OF)(t:Addr):It:={λi H=>∃a x,aS K H t a/\a[i]?=some x,λi H v b=>∃T x,H T=none/\v=.ref T/\b=aH H T (.tup [.int i,x])/\∀a,aS K H t a->a[i]?=some x,λi H=>∃a,aS K H t a/\a.length=i}
def Br{P:OK}{w:World}{K:OF}{r:OM}{Z:Nat}{F:Pos}{e a t:Addr}(n1:e≠a)(n2:t≠a)(n3:t≠e):vh P w K (.Tuple r Z F) (Ite K t) [e,a] e (λi h=>(∃f,IsEnum h e a i f)/\h.IsTupleIter a t i)where
 mem:=by simp
 obj:=λi h st b j=>by
  obtain⟨⟨_,a1⟩,ob,l,_,V⟩:=st;simp only[so,o_,ML]at j;rcases j with rfl|rfl
  ·show{_,a1,λv z=>by cases z}
  ·show{_,l,λv z=>by rw[V]at z;cases z}
 keep:=λi h h' st k=>by obtain⟨⟨f,a1⟩,l⟩:=st;show{{f,k e (by simp) _ a1},l.at λob z=>k a (by simp) ob z}
 item:=by
  intro X G J L hc i m s R H E I B st hg;subst G J L;obtain⟨Y,x,C,S⟩:=hg;obtain⟨d,M,p,hz⟩:=I.tuple C;obtain⟨u,T,ru⟩:=M.get S;obtain⟨⟨f,a1⟩,l⟩:=st;have hi:i<d.toArray.size:=by rw[md];show(d_.mp T).1
  have n:X.A.in1.handled=none:=by simp[I.ok.hd hc]
  show wpAny_pyNext_enum_itemD (E5 n a t n2 d.toArray) a1 (l,p,) hi n1 (by simp[n1,o8 n3]) λv g tk D b1 b2 b3 b4 off=>?_;have ev:v=u:=by have D:d.toArray[i]?=some v:=D;rw[N6,T]at D;show(mu D).symm
  subst ev;show{_,(),wpAny_letOwnedTupleGo_enum b1 λg' c1 N=>?_};have lt:∀c∈[e,a],c≠s.heap.objs.size:=λc y z=>by
   have hs:∃ob,s.heap.get? c=some ob:=by
    simp only[so,o_,ML]at y;rcases y with rfl|rfl
    ·show{_,a1}
    ·obtain⟨ob,z,_⟩:=l;show(ob,z,)
   obtain⟨ob,h⟩:=hs;rw[z]at h;show absurd (j2 h) (rV _)
  have fresh:H s.heap.objs.size=none:=I.hok.fresh (e_ _);have I1:aN X m R (aH H s.heap.objs.size (.tup [.int i,x])) {s with heap:=s.heap.push {cls:=.type "tuple",data:=.seq #[.int i tk,v]},toks:=tk+1}:=I.laid (λb o z=>c_ _ z) (e_ _) {by rw[ji];simp,[.int i tk,v],.cons {tk,()} (.cons ru .nil),{_,h_ _ (),(),_,()}}
  have I2:=kF (h':=g') (t':=tk+1) (ch:=[e,a]) I1 (λb o j z=>?_) (λb j=>?_)
  ·show{.ref s.heap.objs.size,_,I2,(),{_,x,fresh,(),(),λaa h1=>by rw[I.tuple_inj h1 C];show S},{{_,by simpa using c1},b2.1.extBut N.extBut (o8 n1)},λb j=>?_};rw[aq (lt b j)];show(B b j).1
  ·have q:b≠e/\b≠a:=by simpa using j
   by_cases U:b=s.heap.objs.size
   ·subst U;rw[h_ _ ()]at z;cases z;show N.extBut _ _ q.1 b3
   ·have z':s.heap.get? b=some o:=by
     rcases Nl z with⟨O,_⟩|O
     ·show absurd O U
     ·show O
    show N.extBut _ _ q.1 (off b o q.1 q.2 z')
  ·obtain⟨f0,f1⟩:=B b j;show{by rw[aq (lt b j)];show f0,f1}
 done:=by
  intro X G J L hc i m s R H E I B st hg;subst G J L;obtain⟨Y,C,rfl⟩:=hg;obtain⟨d,M,p,hz⟩:=I.tuple C;have hl:=M.length;obtain⟨⟨f,a1⟩,l⟩:=st;have n:X.A.in1.handled=none:=by simp[I.ok.hd hc]
  have Q:s.heap.IsTupleIter a t d.toArray.size:=by rw[md,<-hl];show l
  show wpAny_pyNext_enum_endD (E5 n a t n2 d.toArray) a1 (Q,p,) λg off=>{(),kF (t':=s.toks) (ch:=[e,a]) I (λb o j z=>?_) B};have q:b≠e/\b≠a:=by simpa using j
  show off b o q.2 z
 self:=λ_ _ _ _ _ st h=>by obtain⟨⟨f,a1⟩,_⟩:=st;show wpAny_pyIter_enum a1 h
section
variable{X:Cx}
def LC(K:OF)(c:TA):TI:=λb H R=>c b H λd a=>∃t e,d=[.ref t]/\aS K a t e/\R (Ite K t) a
def GA(K:OF)(r:X.K=K){c:OM}{v:Nat}{f:Pos}{a:Expr}{m:TA}{p i:Pos}(hg:Gl X "enumerate")(hm:X.mg "enumerate"=none)(w:PA X [a] m)(x:starEach [a] X.env=[(false,eval a X.env)]:=by rfl):PI X (.Tuple c v f) (.Call (.Name "enumerate" p) [a] [] i) (LC K m):=by
 subst r;intro d s y H R I h;show y3 (kW I hg hm L2.uD (F_ (cw (w i d s y H _ I h) λG j⟨J,z,I1,A,B⟩=>?_) (by rw[x];rfl) (by rfl)));obtain⟨t,L,e,C,q⟩:=B;subst e;obtain⟨u,rfl,rt⟩:=k9 A;obtain rfl:u=Value.ref t:=rt;obtain⟨l,M,pl,N⟩:=I1.tuple C;obtain⟨O,D,_⟩:=id pl;have lt:=j2 D;show Al (show j.heap.IsTuple t l.toArray from pl) λg n E F=>?_;show wpAny_pyIter_enum n {_,[j.heap.objs.size+1,j.heap.objs.size],_,_,z,(),I1.kept (t':=j.toks) F,Br (t:=t) (op (wh _)) (m3 lt) (m3 (t_ lt)),{{_,n},E},λb o=>?_,q};have k:j.heap.objs.size<=b:=by
  simp only[so,o_,ML]at o;rcases o with rfl|rfl
  ·show Nat.le_add_right _ _
  ·show e_ _
 show I1.fpOk k (I1.hok.fresh k)
end
def Iti(P:OK)(w:World)(d:Addr)(a:List (bK×V))(c:Nat):It:={λi H=>H d=some (dE P w d a c)/\i<a.length,λi H x b=>∃T k v,H T=none/\x=.ref T/\b=aH H T (.tup [kV k,v])/\a[i]?=some (k,v),λi H=>H d=some (dE P w d a c)/\a.length<=i}
def zn{P:OK}{w:World}{K:OF}{l:OM}{R:Nat}{x:Pos}(d f:Addr)(a:List (bK×V))(J:Nat):vh P w K (.Tuple l R x) (Iti P w d a J) [f] f (λi h=>∃ok m,IsItemIter h f d i a.length J ok m)where
 mem:=by simp
 obj:=λi h st b g=>by
  have e:b=f:=by simpa using g
  subst e;obtain⟨_,_,e⟩:=st;show{_,e,λv z=>by cases z}
 keep:=λi h h'⟨ok,m,e⟩k=>{ok,m,k f (by simp) _ e}
 item:=by
  intro X t y A hc i j s L H E I p st hg;subst t y A;obtain⟨hd,hi⟩:=hg;obtain⟨⟨_,B,q,C⟩,_⟩:=I.hok d _ hd;have c:a.length=B.length:=Paired.length q;have M:a[i]?=some a[i]:=il hi;obtain⟨u,S,ru⟩:=w9 q i a[i].1 a[i].2 M;obtain⟨ok,m,st⟩:=st;have lt:f<s.heap.objs.size:=j2 st;rw[c]at st;show wpAny_pyNext_items_item st C S λn h' T out U hz Y=>?_;show{_,(),wpAny_letOwnedTupleGo_items out λZ N O=>?_};rw[<-c]at N;have fresh:H s.heap.objs.size=none:=I.hok.fresh (e_ _);have I1:aN X j L (aH H s.heap.objs.size (.tup [kV a[i].1,a[i].2])) {s with heap:=s.heap.push {cls:=.type "tuple",data:=.seq #[n,u]}}:=I.laid (t':=s.toks) (λb o z=>c_ _ z) (e_ _) {by rw[ji];simp,[n,u],.cons (AW T) (.cons ru .nil),{_,h_ _ (),(),_,()}}
  have I2:=kF (h':=Z) (t':=s.toks) (ch:=[f]) I1 (λb o g z=>?_) (λb g=>?_)
  ·show{.ref s.heap.objs.size,_,I2,(),{_,a[i].1,a[i].2,fresh,(),(),M},{_,_,N},λb g=>?_};have e:b=f:=by simpa using g
   subst e;rw[aq (m3 lt)];show(p b g).1
  ·have D:b≠f:=by simpa using g
   by_cases r:b=s.heap.objs.size
   ·subst r;rw[h_ _ ()]at z;cases z;show O.extBut _ _ D U
   ·have z':s.heap.get? b=some o:=by
     rcases Nl z with⟨F,_⟩|F
     ·show absurd F r
     ·show F
    show O.extBut _ _ D (Y b o D z')
  ·have e:b=f:=by simpa using g
   subst e;obtain⟨G,f1⟩:=p b g;show{by rw[aq (m3 lt)];show G,f1}
 done:=by intro X t y A hc i j s L H E I p st hg;subst t y A;obtain⟨hd,hi⟩:=hg;obtain⟨⟨_,B,q,C⟩,_⟩:=I.hok d _ hd;have c:a.length=B.length:=Paired.length q;obtain⟨G,f1,f2,f3,f4,f5⟩:=p f (by simp);obtain⟨ok,m,st⟩:=st;rw[c]at st;show wpAny_pyNext_items_end (I.ok.hd hc) st C (rm (by omega)) λh' r=>{(),I.turned (t':=s.toks) (λb o g e=>r b o g e) G f1 f3 f4 f5}
 self:=λ_ _ _ _ _ st h=>by obtain⟨_,_,st⟩:=st;show kcp_self st h
section
variable{X:Cx}{P:OK}{w:World}{o:Expr}{i:TE}{c a g:Pos}{f:OM}{j:Nat}
def JM(P:OK)(w:World)(i:TE):TI:=λk H R=>i k H λx e=>∃d b,x=.ref d/\e d=some (.dK b)/\∀h,R (Iti P w d b h) (aH e d (dE P w d b h))
def yh(C:PE X o i)(D:X.prog=P:=by rfl)(E:X.w=w:=by rfl)(l:attributeBase o "items" X.env (eval o X.env)=eval o X.env:=by rfl)(m:(c.endLine==a.line)=true:=by rfl):PI X (.Tuple f j g) (.Call (.Attribute o "items" c) [] [] a) (JM P w i):=by
 subst D E;intro n s G H R I h;show wpAny_Call_method0_late l m (cw (C n s G H _ I h) λv k J=>?_);obtain⟨x,U,I1,K,d,p,e,hd,q⟩:=J;subst e;obtain rfl:v=Value.ref d:=K;obtain⟨A,B,L,r,M,N⟩:=I1.walk hd;have t:p.length=B.length:=Paired.length L;obtain⟨ob,V,u,O,_⟩:=id r;show{"dict","dict.items",PySem.F.plainAttrs_dict,PySem.F.slot_dict_items,PySem.F.type_dict_items,r.dictOf.typeIs,?_,tA () (PySem.evalArgs_none (MK PySem.F.slot_dict_items r.dictOf.typeIs PySem.F.entry_dict_items (PySem.F.args_dict_items_1 _) (meets_dict_items (aV X.prog X.w) d M) {(B,r.dictOf,),?_}))}
 ·intro b z;cases z;show(ob,u,O.2.1,)
 ·have Q:(k.heap.push {cls:=.type "dict_items",data:=.fields #[.ref d]}).IsItemsView k.heap.objs.size d:={_,h_ _ (),(),()};change wpAny _ _ (pyIter (.ref k.heap.objs.size)) _ _ _;have y:=N.kept (h':=k.heap.push {cls:=.type "dict_items",data:=.fields #[.ref d]}) (t':=k.toks) λb o e=>c_ _ e;show wpAny_pyIter_items (s:={k with heap:=k.heap.push {cls:=.type "dict_items",data:=.fields #[.ref d]}}) Q (r.push _) ?_;show{_,[(k.heap.push {cls:=.type "dict_items",data:=.fields #[.ref d]}).objs.size],_,_,_,(),y.kept (t':=k.toks) λb o e=>c_ _ e,zn d _ p A,{_,_,by rw[t];show h_ _ ()},λb T=>?_,q A};have e:b=(k.heap.push {cls:=.type "dict_items",data:=.fields #[.ref d]}).objs.size:=by simpa using T
  subst e;show y.fpOk (e_ _) (y.hok.fresh (e_ _))
end
def qf(n:Nat){c:Type}(R:c->Prop):KasT c->Prop|.ret a=>R a|.ask i j k=>i<n/\j<n/\∀b,qf n R (k b)
theorem qf.bind{n:Nat}{c e:Type}{R:c->Prop}{S:e->Prop}{f:c->KasT e}(g:∀a,R a->qf n S (f a)):∀{t:KasT c},qf n R t->qf n S (t.bind f)|.ret a,h=>g a h|.ask i j k,h=>{h.1,h.2.1,λb=>qf.bind g (h.2.2 b)}
theorem qf.wp{n:Nat}{e:Type}{R:e->Prop}{c:Nat->Nat->(Bool->Shared->Prop)->Shared->Prop}{Q:e->Shared->Prop}{s:Shared}(hc:∀i j C,i<n->j<n->(∀b,C b s)->c i j C s)(f:∀a,R a->Q a s):∀{t:KasT e},qf n R t->t.kasWp c Q s|.ret a,h=>f a h|.ask i j k,h=>hc i j _ h.1 h.2.1 λb=>qf.wp hc f (h.2.2 b)
def PR(n:Nat)(p:Array Nat):Prop:=p.toList.Perm (List.range n)
def PR.lt(h:PR n p)(hn:0<n)(k:Nat):p.getD k 0<n:=by
 by_cases a:k<p.size
 ·have e:p.getD k 0=p[k]:=by simp[Array.getD,a]
  rw[e];show wr.mp (h.mem_iff.mp (Array.mem_toList_iff.mpr (Array.getElem_mem a)))
 ·have e:p.getD k 0=0:=by simp[Array.getD,a]
  rw[e];show hn
def PR.rev(h:PR n p)(i j:Nat):PR n (kas_rev p i j):=(mirror_perm p i j _).toList.trans h
section
variable{n:Nat}(hn:0<n)
include hn
theorem xa(h:PR n p):∀f m,qf n (λ_=>True) (kas_asc p f m)|0,_=>trivial|f+1,m=>{h.lt hn _,h.lt hn _,λb=>by cases b with|true=>show trivial|false=>show xa h f (m+1)}
theorem pU:∀(f:Nat){p:Array Nat}(m q:Nat),PR n p->qf n (λr:Array Nat×Nat×Nat=>PR n r.1) (kas_desc f p m q)|0,_,_,_,h=>h|f+1,p,m,q,h=>⟨h.lt hn _,h.lt hn _,λb=>by
 cases b with|true=>
   show qf n _ (if q>0 then _ else _)
   split
   ·exact pU f _ _ (h.rev _ _)
   ·exact pU f _ _ h|false=>refine⟨h.lt hn _,h.lt hn _,λd=>?_⟩;cases d with|true=>exact h|false=>exact pU f _ _ h⟩
def yH{p:Array Nat}(m r:Nat)(h:PR n p):qf n (λr:Nat×Array Nat=>PR n r.2) (kas_tail3 m r p):=qf.bind (S:=λr:Nat×Array Nat=>PR n r.2) (f:=λa=>.ret (a,kas_rev p 0 m)) (λ_ _=>h.rev _ _) (xa hn (h.rev _ _) _ _)
def yI{p:Array Nat}(m r:Nat)(h:PR n p):qf n (λr:Nat×Array Nat=>PR n r.2) (kas_descPart m r p):=qf.bind (λa b=>by
 change qf n _ (if a.2.2>0 then _ else _)
 split
 ·show yH hn _ _ (b.rev _ _)
 ·show yH hn _ _ b) (pU hn _ _ _ h)
def Cc{p:Array Nat}(r:Nat)(h:PR n p):qf n (λr:Nat×Array Nat=>PR n r.2) (kas_count r p):=qf.bind (λm _=>by
 change qf n _ (if(m==r)=true then _ else _)
 split
 ·show h
 ·split
  ·show{h.lt hn _,h.lt hn _,λc=>?_};cases c with|true=>show h|false=>show yI hn _ _ (h.rev _ _)
  ·show yI hn _ _ h) (xa hn h _ _)
theorem qA{p:Array Nat}(h:PR n p)(k:Nat):∀f l r,qf n (λ_=>True) (kas_place p k f l r)
 |0,_,_=>trivial|f+1,l,r=>by
  change qf n _ (if l>=r then _ else _)
  split
  ·show trivial
  ·show{h.lt hn _,h.lt hn _,λc=>?_};cases c with|true=>show qA h k f _ _|false=>show qA h k f _ _
theorem A4:∀(f:Nat){p:Array Nat}(k:Nat),PR n p->qf n (PR n) (kas_bin f p k)|0,_,_,h=>h|f+1,p,k,h=>qf.bind (λl _=>A4 f _ ((bubble_perm p k _).toList.trans h)) (qA hn h _ _ _ _)
def ED:qf n (PR n) (kas_sort n):=qf.bind (λr a=>by
 change qf n _ (if r.1<n then _ else _)
 split
 ·show A4 hn _ _ a
 ·show a) (Cc hn _ (show(List.toArray (List.range n)).toList.Perm _ by show .refl _))
end
section
variable{prog:OK}{w:World}{A:Around}{E:OG}{s:Shared}{κ:SortKind}
def Ds{a:Addr}{c:OJ}{n:Nat}{P:Fin->Shared->Prop}(v:s.heap.get? a=some (seqObj "list" c.toArray n))(L:c.length<64)(M:2<=c.length->∀g:Shared,(∀b o,b≠a->s.heap.get? b=some o->g.heap.get? b=some o)->(∀Q:SortKind->Shared->Prop,Q κ g->wpAny (model prog w) A (keyKind' c.toArray) Q (λ_ _=>False) g)/\∀x y C,x∈c->y∈c->(∀b,C b g)->wpAny (model prog w) A (keyLt' κ x y) C (λ_ _=>False) g)(h:∀out:List Value,out.Perm c->P (.done (.ret .none)) {s with heap:=sortedHeap s.heap a c out.toArray}):wpAny (model prog w) A (Builtin.«list.sort» {[.ref a],[]}) P E s:=by
 rw[list_sort_plain];have B:c.toArray.size=c.length:=by simp
 show a_ (listItems_at v () ?_);show a_ (listUpdate_at v () ?_ (by rw[B,ji];lia) (np _));obtain⟨D,k⟩:∃D,(s.heap.update a (Obj.mapSeq λ_=>#[])).get? a=some (seqObj "list" #[] D):={_,get?_update_seq v (λ_=>#[])};show a_ (seqEpoch_at k () ?_);show a_ (wpAny_newTuple ?_ (by change c.length<=_;rw[ji];lia));show a_ (wpAny_newList ?_ (np _));show qq ?_;have kept:∀b o,b≠a->s.heap.get? b=some o->(((s.heap.update a (Obj.mapSeq λ_=>#[])).push (seqObj "tuple" c.toArray 0)).push (seqObj "list" #[] 0)).get? b=some o:=λb o N q=>c_ _ (c_ _ ((Heap.get?_update_ne _ _ _ _ N).trans q))
 have d:(((s.heap.update a (Obj.mapSeq λ_=>#[])).push (seqObj "tuple" c.toArray 0)).push (seqObj "list" #[] 0)).get? a=some (seqObj "list" #[] D):=c_ _ (c_ _ k);change wpAny (model prog w) A _ P E {s with heap:=((s.heap.update a (Obj.mapSeq λ_=>#[])).push (seqObj "tuple" c.toArray 0)).push (seqObj "list" #[] 0)};dsimp only;have F:(c.toArray.zip c.toArray).size=c.length:=by simp
 by_cases h2:c.toArray.size<2
 ·rw[i_ h2,i_ h2];show a_ (f_ ?_);rw[StateT.run_pure];show a_ (f_ ?_);dsimp only;show a_ (seqEpoch_at d () ?_);show a_ (listUpdate_at d () ?_ (np _) (by show lm (MY ((Array.size_map ..).trans F)) ?_;rw[ji];lia));simp only[bne_self_eq_false,M8,NL];have e:(c.toArray.zip c.toArray).map (·.2)=c.toArray:=by
   apply Array.toList_inj.mp;have e:(c.toArray.zip c.toArray).toList=c.zip c:=by simp
   rw[Array.toList_map,e];show List.map_snd_zip (e_ _)
  have:=h c (.refl _);rw[<-e]at this;show f_ this
 ·rw[iA h2,iA h2];have l:2<=c.length:=by lia
  obtain⟨O,R⟩:=M l {s with heap:=((s.heap.update a (Obj.mapSeq λ_=>#[])).push (seqObj "tuple" c.toArray 0)).push (seqObj "list" #[] 0)} kept;show a_ (wpAny_mono (O (λm K=>m=κ/\K={s with heap:=((s.heap.update a (Obj.mapSeq λ_=>#[])).push (seqObj "tuple" c.toArray 0)).push (seqObj "list" #[] 0)}) {(),()}) (λm K z=>?_) λ_ _ x=>x.elim);obtain⟨rfl,rfl⟩:=z;show a_ (wpAny_mono (kat_run (ks:=c) (vs:=c) (Q:=λf r=>∃p:Array Nat,arrOf f=p.map (kas_item (c.toArray.zip c.toArray))/\failedOf f=none/\PR c.length p/\r=_) (G:=λp r=>PR c.length p/\r=_) () l L (λp f r a1 T U a4=>(p,T,U,a4,)) (qf.wp (λi j C hi V W=>?_) (λp u=>{u,()}) (ED (by lia)))) ?_ λ_ _ e=>e)
  ·unfold kas_ask;have mem:∀i,i<c.length->c.getD i Value.none∈c:=λi hi=>by rw[ry,il hi];show Nf hi
   show R _ _ C (mem i hi) (mem j V) W
  ·rintro⟨⟨⟩,f⟩r⟨p,H,X,u,rfl⟩;dsimp only;have t:=kat_snds (ks:=c) (vs:=c) () H;have I:p.toList.length=c.length:=by rw[u.length_eq,ri]
   have J:(p.toList.map λi=>c.getD i Value.none).Perm c:=by
    show(u.map λi=>c.getD i Value.none).trans (OD ?_);show J_ λi=>?_;rw[ig]
    by_cases hi:i<c.length
    ·rw[List.getElem?_range hi];simp[hi]
    ·rw[rm (by rw[ri];lia),rm (by lia)];rfl
   rw[t];show a_ (seqEpoch_at d () ?_);show a_ (listUpdate_at d () ?_ (np _) (by rw[md,b_,I,ji];lia));rw[X];simp only[bne_self_eq_false,M8,NL];show f_ (h _ J)
end
def zg(h:Heap)(v:Value):Prop:=∃a o n x y z t u b,v=.ref a/\h.get? a=some o/\o.cls=.type "tuple"/\o.data=.seq #[.str x t,.str y u,.str z b] n
def zg.kept(p:zg h v)(k:∀b o,h.get? b=some o->h'.get? b=some o):zg h' v:=by obtain⟨a,o,n,x,y,z,t,u,c,e,d,r⟩:=p;show{a,o,n,x,y,z,t,u,c,e,k _ _ d,r}
section
variable{prog:OK}{w:World}{A:Around}{E:OG}{s:Shared}
def FH(g:zg s.heap v)(h:zg s.heap u)(e:∀b,C b s):wpAny (model prog w) A (keyLt' (tuples' true) v u) C (λ_ _=>False) s:=by obtain⟨a,o,n,x,y,z,p,q,r,rfl,i,hc,hd⟩:=g;obtain⟨B,D,F,G,H,I,j,k,l,rfl,d,m,f⟩:=h;have c:∀{x y:Str}{t u:Tok},wpAny (model prog w) A (oneLt' false (.str x t) (.str y u)) C (λ_ _=>False) s:=λ{x y t u}=>kat_one _ _ (lt_str (e _));show kat_lt i hd d f (kat_cons (NK (kat_go (λ_=>kat_yes (kat_cons (NK (kat_go (λ_=>kat_yes (kat_cons (NK (kat_go (λ_=>kat_yes (kat_nil (e _))) (λ_=>kat_no c))))) (λ_=>kat_no c))))) (λ_=>kat_no (oneLt_str (e _))))))
theorem qU:∀{c:OJ},(∀v∈c,zg h v)->∃fs:List Value,KatTups h c fs/\fs.length=c.length/\∀v∈fs,∃x t,v=Value.str x t
 |[],_=>{[],.nil,(),λv b=>nomatch b}|u::r,d=>by
  obtain⟨a,o,n,x,y,z,e,g,i,rfl,f,hc,hd⟩:=d u (mo ..);obtain⟨fs,h1,h2,h3⟩:=qU λv b=>d v (j_ _ b);show{.str x e::fs,.cons f hc hd () h1,by simp[h2],λv b=>?_};rcases so.mp b with rfl|b
  ·show{_,_,()}
  ·show h3 v b
def zr(g:s.heap.IsList l vs.toArray)(i:vs.length<64)(j:∀v∈vs,zg s.heap v)(h:∀out:List Value,out.Perm vs->Q (.ref (s.heap.objs.size+1)) {s with heap:=sortedAll s.heap vs out.toArray}):wpAny (model prog w) A (call (.builtin "sorted") [.ref l]) Q E s:=by
 show Calls.call_function_entry kind_sorted plain_sorted entry_sorted (args_sorted1 _) ?_;unfold Builtin.«sorted»;show a_ (m:=checkCount "sorted" 1 1 _) (f_ ?_);show a_ (collect_list g ?_ (by rw[ji];lia));show a_ (wpAny_newList ?_ (by rw[ji];lia));have c:((s.heap.push (seqObj "list" #[] 0)).update s.heap.objs.size (Obj.mapSeq (·++vs.toArray))).objs.size=s.heap.objs.size+1:=by rw[Heap.size_update,size_push']
 have e:(((s.heap.push (seqObj "list" #[] 0)).update s.heap.objs.size (Obj.mapSeq (·++vs.toArray))).push (seqObj "list" vs.toArray 0)).get? (s.heap.objs.size+1)=some (seqObj "list" vs.toArray 0):=by rw[<-c];show h_ _ ()
 have keep:∀b o,s.heap.get? b=some o->b≠s.heap.objs.size+1/\(((s.heap.push (seqObj "list" #[] 0)).update s.heap.objs.size (Obj.mapSeq (·++vs.toArray))).push (seqObj "list" vs.toArray 0)).get? b=some o:=λb o q=>by have a:b<s.heap.objs.size:=j2 q;show{m3 (t_ a),?_};rw[Heap.get?_push_ne _ _ _ (by rw[c];show m3 (t_ a)),Heap.get?_update_ne _ _ _ _ (m3 a),Heap.get?_push_ne _ _ _ (m3 a)];show q
 change wpAny _ _ _ _ _ {s with heap:=((s.heap.push (seqObj "list" #[] 0)).update s.heap.objs.size (Obj.mapSeq (·++vs.toArray))).push (seqObj "list" vs.toArray 0)};rw[c];show a_ (qq (q_ slot_list_sort (s:={s with heap:=((s.heap.push (seqObj "list" #[] 0)).update s.heap.objs.size (Obj.mapSeq (·++vs.toArray))).push (seqObj "list" vs.toArray 0)}) {_,e,()} entry_list_sort (Ds (κ:=tuples' true) e i (λh2 k n=>?_) λout a1=>{_,(),?_}) (args_list_sort _)))
 ·have d:∀v∈vs,zg k.heap v:=λv f=>(j v f).kept λb o q=>n b o (keep b o q).1 (keep b o q).2;show{λF p=>?_,λx y C r u z=>FH (d x r) (d y u) z};obtain⟨fs,h1,B,h3⟩:=qU d;show kat_kind (T:=Value.type "str") h1 (by lia) (λv f=>?_) (by decide+kernel) ?_
  ·obtain⟨x,t,rfl⟩:=h3 v f;show Looks.of_pure ()
  ·rw[show(Value.type "str"!=Value.type "tuple")=true by decide+kernel];show p
 ·show f_ {_,(),h out a1}
end
theorem AL:∀{c:OP}{a:OJ},be (c.map V.ref) a->a=c.map Value.ref|[],_,.nil=>()|u::r,_,.cons h t=>by obtain rfl:_=Value.ref u:=h;rw[AL t];rfl
theorem wV:∀{a:OP},be (a.map V.ref) (a.map Value.ref)|[]=>.nil|_::_=>.cons () wV
def BR(h:out.Perm (c.map Value.ref)):∃e:List Addr,e.Perm c/\out=e.map Value.ref:=by
 let f:Value->Addr:=λv=>match v with|.ref a=>a|_=>0
 have d:(c.map Value.ref).map f=c:=by rw[s_];show(E2 (g:=id) λa _=>()).trans (Oz c)
 have i:(out.map f).map Value.ref=out:=by rw[s_];show(E2 (g:=id) λv j=>?_).trans (Oz out);obtain⟨a,_,rfl⟩:=k_.mp (h.mem_iff.mp j);rfl
 have b:=h.map f;rw[d]at b;show{_,b,i.symm}
def Aj(K:OF)(A:X.K=K):dG X (.builtin "sorted") (λl H Q=>∃(p:Addr)(c:OP),l=[.ref p]/\aW K H p (c.map V.ref)/\c.length<64/\(∀u∈c,∃x y z,aS K H u [.str x,.str y,.str z])/\∀(q:Addr)(e:OP),H q=none->e.Perm c->Q (.ref q) (aH H q (.lst (e.map V.ref)))):=by
 subst A;intro m s P H l R Q I r h;obtain⟨p,c,rfl,B,hn,C,q⟩:=h;obtain⟨u,rfl,D⟩:=k9 r;obtain rfl:u=Value.ref p:=D;obtain⟨d,f,⟨o,n,g,i,w,E⟩,_⟩:=I.list B;obtain rfl:=AL f;show zr (vs:=c.map Value.ref) (o,g,i,n,E,) (by rw[b_];lia) (λv F=>?_) λout j=>?_
 ·obtain⟨a,hm,rfl⟩:=k_.mp F;obtain⟨x,y,z,G⟩:=C a hm;obtain⟨d,f,⟨o,g,i,n,w⟩,_⟩:=I.tuple G;cases f with|cons h1 t=>cases t with|cons h2 t=>cases t with|cons h3 t=>cases t;obtain⟨J,rfl⟩:=h1;obtain⟨L,rfl⟩:=h2;obtain⟨M,rfl⟩:=h3;show{a,o,n,x,y,z,J,L,M,(),g,i,w}
 ·obtain⟨e,b,rfl⟩:=BR j;obtain⟨N,k⟩:=sortedAll_at s.heap (c.map Value.ref) (e.map Value.ref).toArray;have O:=b.length_eq;show{.ref (s.heap.objs.size+1),_,I.laid (h':=sortedAll s.heap (c.map Value.ref) (e.map Value.ref).toArray) (t':=s.toks) (o:=.lst (e.map V.ref)) (λ_ _=>sortedAll_old) (sf _) {?_,_,N,wV,k},(),q _ e (I.hok.fresh (sf _)) b};rw[b_,ji];lia
def xj{J:It}{n:Nat}{g:TG}{ds:OO}{k:Nat}{tc:TT}{te:TE}{r:St}{s:Hp}{D:Addr}{F:Hp->Prop}(Pv:Nat->List V->Hp->Prop)(h0:Pv 0 [] (aH s D (.lst [])))(hg:∀i a c,i<n->Pv i a c->J.go i c)(u:∀i a c x j,i<n->Pv i a c->J.yld i c x j->g x (iE ds k r) j λf q=>tc f q λb l=>if b=true then te f l λy o=>o D=some (.lst a)/\a.length<sizeLine/\∃h,h<n-i/\h=n-(i+1)/\i+1<=n/\Pv (i+1) (a++[y]) (aH o D (.lst (a++[y])))else∃h,h<n-i/\h=n-(i+1)/\i+1<=n/\Pv (i+1) a l)(hd:∀a c,Pv n a c->J.stop n c/\F c):∃W:Nat->Nat->List V->Hp->Prop,(∃m,W 0 m [] (aH s D (.lst [])))/\∀i m a c,W i m a c->(J.stop i c/\F c)\/(J.go i c/\∀x j,J.yld i c x j->g x (iE ds k r) j λf q=>tc f q λb l=>if b=true then te f l λy o=>o D=some (.lst a)/\a.length<sizeLine/\∃h,h<m/\W (i+1) h (a++[y]) (aH o D (.lst (a++[y])))else∃h,h<m/\W (i+1) h a l):=by
 show{λi m a c=>m=n-i/\i<=n/\Pv i a c,{_,(),np _,h0},?_};rintro i m a c⟨rfl,hi,p⟩
 by_cases d:i<n
 ·show .inr {hg i a c d p,λx j y=>u i a c x j d p y}
 ·have e:i=n:=by lia
  subst e;show .inl (hd a c p)
def EX{J:It}{n:Nat}{g:TG}{tb:TS}{D:jl}{a:St}{H:Hp}(Pv:Nat->St->Hp->Prop)(h0:Pv 0 a H)(hg:∀i a H,i<n->Pv i a H->J.go i H)(o:∀i a H x c,i<n->Pv i a H->J.yld i H x c->g x a c λf j=>tb {D with nx:=Pv (i+1),ct:=Pv (i+1),bk:=D.nx} f j)(hd:∀a H,Pv n a H->J.stop n H/\D.nx a H):∃W:Nat->Nat->St->Hp->Prop,(∃m,W 0 m a H)/\∀i m a H,W i m a H->(J.stop i H/\D.nx a H)\/(J.go i H/\∃N:St->Hp->Prop,(∀h c,N h c->∃l,l<m/\W (i+1) l h c)/\∀x c,J.yld i H x c->g x a c λf j=>tb {D with nx:=N,ct:=N,bk:=D.nx} f j):=by
 show{λi m a H=>m=n-i/\i<=n/\Pv i a H,{n,by simp,np _,h0},?_};rintro i m a H⟨rfl,hi,p⟩
 by_cases b:i<n
 ·show .inr {hg i a H b p,Pv (i+1),λh c d=>{n-(i+1),by omega,(),b,d},λx c y=>o i a H x c b p y}
 ·have e:i=n:=by lia
  subst e;show .inl (hd a H p)
end L2
namespace L2
open PySem
def rF{K:OF}{f:Str}{a C dx:Addr}{fs:List (Str×V)}{v:V}{H:Hp}{R:V->Prop}(h:H a=some (.ins C dx fs))(hc:xH K C)(hn:ca K C f)(l:fs.lookup f=some v)(k:R v):∃i e g c j,V.ref a=.ref i/\H i=some (.ins e g c)/\xH K e/\ca K e f/\c.lookup f=some j/\R j:={a,C,dx,fs,v,(),h,hc,hn,l,k}
def rM{a C dx:Addr}{m:Str}{fs:List (Str×V)}{H:Hp}{R:Prop}(h:H a=some (.ins C dx fs))(hn:fs.lookup m=none)(k:R):∃f e c,V.ref a=.ref f/\H f=some (.ins C e c)/\c.lookup m=none/\R:={a,dx,fs,(),h,hn,k}
def rG{e:Type}{a:Addr}{A R:Addr->e->Prop}(v:e)(h:A a v)(k:R a v):∃c f,V.ref a=.ref c/\A c f/\R c f:={a,v,(),h,k}
def rX{A:Addr->List V->Prop}{p:Addr}{c:List V}{i:Int}{v:V}{R:V->Prop}(h:A p c)(j:vg c i=some v)(k:R v):∃e a f g,V.ref p=.ref e/\V.int i=.int f/\A e a/\vg a f=some g/\R g:={p,c,i,v,(),(),h,j,k}
def rA{l:Addr}{c:List V}{y:V}{H:Hp}{R:Addr->List V->V->Prop}(h:H l=some (.lst c))(g:c.length<sizeLine)(k:R l c y):∃e a f,V.ref l=.ref e/\[y]=[f]/\H e=some (.lst a)/\a.length<sizeLine/\R e a f:={l,c,y,(),(),h,g,k}
def r2{i j:Int}{R:Int->Int->Prop}(k:R i j):∃a c,V.int i=.int a/\V.int j=.int c/\R a c:={i,j,(),(),k}
def U{a:Type}{A R:a->Prop}{v:a}(h:A v)(k:R v):∃v,A v/\R v:=(v,h,k,)
def iN{K:OF}{f:Str}{a C dx:Addr}{fs:List (Str×V)}{o:Option (Option V)}{v:V}{H:Hp}{R:V->Prop}(h:H a=some (.ins C dx fs))(hc:xH K C)(hn:ca K C f)(h0:o=some (some (.ref a)))(l:fs.lookup f=some v)(k:R v):∃w,o=some (some w)/\∃i e g c j,w=.ref i/\H i=some (.ins e g c)/\xH K e/\ca K e f/\c.lookup f=some j/\R j:={_,h0,a,C,dx,fs,v,(),h,hc,hn,l,k}
def nM{a C dx:Addr}{m:Str}{fs:List (Str×V)}{o:Option (Option V)}{H:Hp}{R:V->Prop}(h:H a=some (.ins C dx fs))(h0:o=some (some (.ref a)))(hn:fs.lookup m=none)(k:R (.ref a)):∃w,o=some (some w)/\∃f e c,w=.ref f/\H f=some (.ins C e c)/\c.lookup m=none/\R w:={_,h0,a,dx,fs,(),h,hn,k}
end L2
namespace L2
open PySem PySem.Spec PyProof.Rows PySem.W
section
variable{X:Cx}
theorem IsPs.mem(I:aN X f l H s):∀{g:List V}{ds:List PyData}{e:OJ},IsPs X.K H g ds->be g e->(∀u∈e,∃d∈ds,∃c,Reads s.heap u d c)/\∀d∈ds,∃u∈e,∃c,Reads s.heap u d c
 |_,_,_,.nil,r=>by cases r;show{λu a=>(nomatch a),λu a=>(nomatch a)}|_,_,_,.cons h b,.cons i r2=>by
  obtain⟨c,q⟩:=Au.reads I h i;obtain⟨j,k⟩:=IsPs.mem I b r2;show{λu a=>?_,λd hd=>?_}
  ·rcases so.mp a with rfl|a
   ·show{_,mo,c,q}
   ·obtain⟨d,hd,x⟩:=j u a;show{d,j_ _ hd,x}
  ·rcases so.mp hd with rfl|hd
   ·show{_,mo,c,q}
   ·obtain⟨u,a,x⟩:=k d hd;show{u,j_ _ a,x}
abbrev lM(e:OL):PyData:=.tuple (e.map PyData.str)
theorem zj:∀{e:OL}{c:OJ}{f:OP},ReadsAll h c (e.map PyData.str) f->∀j(a:j<c.length),∃x t,e[j]?=some x/\c[j]=.str x t
 |[],_,_,.nil,j,a=>absurd a (Np _)|x::r,_,_,.cons h1 h2,0,a=>by cases h1 with|str _ t=>show{x,t,(),()}
 |x::r,_,_,.cons h1 h2,j+1,a=>by obtain⟨y,t,b,d⟩:=zj (e:=r) h2 j (by simpa using a);show{y,t,by simpa using b,by simpa using d}
theorem AA:∀{e d:OL}{a:OJ}{c bs:OP},ReadsAll h a (e.map PyData.str) c->ReadsAll h a (d.map PyData.str) bs->e=d|[],[],_,_,_,_,_=>()|[],_::_,_,_,_,.nil,k=>nomatch k|_::_,[],_,_,_,.cons _ _,k=>nomatch k|x::r,y::q,_,_,_,.cons h1 h2,.cons b f=>by cases h1 with|str _ t=>cases b with|str _ _=>rw[AA h2 f]
theorem oP:∀e:List Str,PyData.eqvAll (e.map PyData.str) (e.map PyData.str)=true|[]=>()|x::r=>by rw[n_,PyData.eqvAll,oP r];simp[PyData.eqv]
def CM(r:Reads s.heap a (lM e) I)(u:Reads s.heap b (lM d) bs)(v:A.units<cLine):SeqAt.EqAt A s a b (PyData.eqv (lM e) (lM d)):=by cases r with|@tuple l o w n _ _ h1 h2 h3 h4=>cases u with|@tuple i J c n2 _ _ f z g h=>
   change SeqAt.EqAt A s (.ref l) (.ref i) (PyData.eqvAll (e.map PyData.str) (d.map PyData.str))
   by_cases q:l=i
   ·subst q;rw[h1]at f;obtain rfl:=mu f;rw[h3]at g;cases g;rw[AA h4 h,oP];show .same _
   ·have B:w.size=(e.map PyData.str).length:=by simpa using SeqAt.ReadsAll.length _ _ _ h4
    have C:c.size=(d.map PyData.str).length:=by simpa using SeqAt.ReadsAll.length _ _ _ h
    rw[<-SeqAt.eqvAll_eq,<-B,<-C];show .of_refs q (SeqAt.RcAt.tuples {_,h1,h2,_,h3} {_,f,z,_,g} v λj D E=>?_);obtain⟨x,t,F,k⟩:=zj h4 j (by simpa using D);obtain⟨y,G,H,m⟩:=zj h j (by simpa using E);have p:SeqAt.pairEq (e.map PyData.str) (d.map PyData.str) j=(x==y):=by unfold SeqAt.pairEq;rw[ry,ry,ig,ig,F,H];rfl
    rw[Array.getElem_toList]at k m;rw[p,k,m];show .str_str x t y G
def Mo{A:Around}{k:Nat}(a:eZ k A):A.units+65<cLine:=by have:=a.un;lia
end
set_option genInjectivity false in
set_option genSizeOf false in
structure AF where
 x:Addr
 d:FuncData
structure Df(K:OF)(mg:OI)(n:Str)(st:Stmt)(a:AF)(ps:OL):Prop where
 f:xG K n n st a.x a.d
 m:mg n=some (.ref a.x)b:fZ K a.d ps []
structure Mf(K:OF)(C:Addr)(n q:Str)(st:Stmt)(a:AF)(ps:OL):Prop where
 f:xG K n q st a.x a.d
 m:FA K C n a.x
 b:fZ K a.d ps []
section
variable{K:OF}{h:Heap}{mg:OI}{n q:Str}{st:Stmt}{x C:Addr}{fd:FuncData}
def Ia{c:OL}(X:K.In h)(G:h.Ns mainGlobals mg)(a:PySem.W.nsIn K mainGlobals n=some (some (.ref x)))(F:xG K n n st x fd)(b:xG K n n st x fd->fZ K fd c []):Df K mg n st (x,fd,) c:={F,PySem.W.mg_of X G a,b F}
def Ln{c:OL}(a:PySem.W.findIn K (.ref C) n=some (some (.ref x)))(i:PySem.W.isFn K (.ref x)=true)(F:xG K n q st x fd)(b:xG K n q st x fd->fZ K fd c []):Mf K C n q st (x,fd,) c:={F,(a,i,F.kp,),b F}
def LD(X:K.In h)(G:h.Ns mainGlobals mg)(a:PySem.W.nsIn K mainGlobals n=some (some (.ref x))):mg n=some (.ref x):=PySem.W.mg_of X G a
def Kw(X:K.In h)(G:h.Ns mainGlobals mg)(a:PySem.W.nsIn K mainGlobals n=some none):mg n=none:=PySem.W.mg_none_of X G a
def Lv{i:Int}{t:Tok}(X:K.In h)(G:h.Ns mainGlobals mg)(a:PySem.W.nsIn K mainGlobals n=some (some (.int i t))):∃u,mg n=some u/\a0 (.int i) u:={_,PySem.W.mg_of X G a,_,()}
def KW{i:Str}{t:Tok}(X:K.In h)(G:h.Ns mainGlobals mg)(a:PySem.W.nsIn K mainGlobals n=some (some (.str i t))):∃u,mg n=some u/\a0 (.str i) u:={_,PySem.W.mg_of X G a,_,()}
def HX(a:PySem.W.excIn K x [.type "ValueError",.type "Exception",.type "BaseException",.type "object"] "ValueError.__new__"=true):vm K x:=a
def AT(a:PySem.W.findIn K (.ref C) n=some none):ca K C n:=a
def Lu{dd:Option Addr}{a:ON}{e:Nat}{sl:Array (Option Value)}{c:List V}(w:K.lookup x=some {.type "tuple",dd,.seq a e,sl})(y:be c a.toList)(l:Nat.ble c.length 65536=true):L2.L3 K x c:={_,a,e,w,(),(),by rw[<-nB,<-y.length];show cG (N5 l),y}
abbrev Kq(st:Stmt)(n q:Str)(kV a pm:Value)(e:Option Addr)(c ct:Value)(f:OJ):=bindArgs (PySem.W.fnOf n q (pY st) (gJ st) (am st) .none kV a pm e c ct) {f,[]}
variable{c e f g j m:Str}
def va{n:Nat}{i:OJ}(h:i.length=n+1):∃u a,i=u::a/\a.length=n:=by cases i with|nil=>cases h|cons u a=>show{u,a,(),Nat.succ.inj h}
def b1(F:xG K n q st x fd)(h:∀kV a pm l i ct u,Kq st n q kV a pm l i ct [u]=pure [(c,u)]:=by intros;rfl):fZ K fd [c] []:=F.binds λkV a pm l i ct b d=>by obtain⟨u,b,rfl,h1⟩:=va d;cases rr.mp h1;show h kV a pm l i ct u
def b2(F:xG K n q st x fd)(h:∀kV a pm l i ct u v,Kq st n q kV a pm l i ct [u,v]=pure [(c,u),(e,v)]:=by intros;rfl):fZ K fd [c,e] []:=F.binds λkV a pm l i ct b d=>by obtain⟨u,b,rfl,h1⟩:=va d;obtain⟨v,b,rfl,h2⟩:=va h1;cases rr.mp h2;show h kV a pm l i ct u v
def b3(F:xG K n q st x fd)(h:∀kV a pm l i ct u v w,Kq st n q kV a pm l i ct [u,v,w]=pure [(c,u),(e,v),(f,w)]:=by intros;rfl):fZ K fd [c,e,f] []:=F.binds λkV a pm l i ct b d=>by obtain⟨u,b,rfl,h1⟩:=va d;obtain⟨v,b,rfl,h2⟩:=va h1;obtain⟨w,b,rfl,h3⟩:=va h2;cases rr.mp h3;show h kV a pm l i ct u v w
def b4(F:xG K n q st x fd)(h:∀kV a pm l i ct u v w y,Kq st n q kV a pm l i ct [u,v,w,y]=pure [(c,u),(e,v),(f,w),(g,y)]:=by intros;rfl):fZ K fd [c,e,f,g] []:=F.binds λkV a pm l i ct b d=>by obtain⟨u,b,rfl,h1⟩:=va d;obtain⟨v,b,rfl,h2⟩:=va h1;obtain⟨w,b,rfl,h3⟩:=va h2;obtain⟨y,b,rfl,h4⟩:=va h3;cases rr.mp h4;show h kV a pm l i ct u v w y
def b5(F:xG K n q st x fd)(h:∀kV a pm l i ct u v w y z,Kq st n q kV a pm l i ct [u,v,w,y,z]=pure [(c,u),(e,v),(f,w),(g,y),(j,z)]:=by intros;rfl):fZ K fd [c,e,f,g,j] []:=F.binds λkV a pm l i ct b d=>by obtain⟨u,b,rfl,h1⟩:=va d;obtain⟨v,b,rfl,h2⟩:=va h1;obtain⟨w,b,rfl,h3⟩:=va h2;obtain⟨y,b,rfl,h4⟩:=va h3;obtain⟨z,b,rfl,k⟩:=va h4;cases rr.mp k;show h kV a pm l i ct u v w y z
def b6(F:xG K n q st x fd)(h:∀kV a pm l i ct u v w y z r,Kq st n q kV a pm l i ct [u,v,w,y,z,r]=pure [(c,u),(e,v),(f,w),(g,y),(j,z),(m,r)]:=by intros;rfl):fZ K fd [c,e,f,g,j,m] []:=F.binds λkV a pm l i ct b d=>by obtain⟨u,b,rfl,h1⟩:=va d;obtain⟨v,b,rfl,h2⟩:=va h1;obtain⟨w,b,rfl,h3⟩:=va h2;obtain⟨y,b,rfl,h4⟩:=va h3;obtain⟨z,b,rfl,k⟩:=va h4;obtain⟨r,b,rfl,o⟩:=va k;cases rr.mp o;show h kV a pm l i ct u v w y z r
end
def cd{i j:Int}(h:decide (0<j/\j<1073741824)=true):fI i j:=(l_ h:0<j/\j<1073741824)
def ls{n:Nat}(h:Nat.ble n 65536=true):n<=sizeLine:=cG (N5 h)
section
variable{X:Cx}{n:Str}{st:Stmt}{a:AF}{l:OL}{sp:Sp}{j k:Nat}{e:Expr}{h:OM}{t:TA}{p c:Pos}
def pc(D:Df X.K X.mg n st a l)(F:aT X.prog X.w X.K X.mg X.base d0 j a.x a.d l sp)(o:eZ k X.A)(q:PA X (e::h) t)(r:j<=k:=by decide)(hg:Gl X n:=by rfl)(g:(n==("__debug__":Str))=false:=by decide)(s:starEach (e::h) X.env=(false,eval e X.env)::starEach h X.env:=by rfl)(i:(backTo c (starEach h X.env)).any (·.1)=false:=by rfl):PE X (.Call (.Name n p) (e::h) [] c) (HH sp [] E0 t):=aP (F.mono r) o hg D.m D.f.kp D.b .nil bj q g s i
def bn(i:Nat){x:Str}{te:TE}{f:Pos}(m:X.N.Nodup)(o:PE X e te)(hi:X.N[i]?=some x:=by rfl)(g:X.env.scope.names.lookup x=some .local:=by rfl)(q:swapsWith e (some (.Name x f)) c.line X.env=pure false:=by rfl):PS X (.Assign [.Name x f] e c) (wB te (io i)):=tR m hi (.inl g) o q (.inr g)
def oK(i:Nat){x:Str}(g:X.N.Nodup)(hi:X.N[i]?=some x:=by rfl)(f:X.env.scope.names.lookup x=some .local:=by rfl):PG X (.Name x c) (io i):=AN g hi (.inl f) (.inr f)
def lF(N0 f:OL)(i:Nat){x:Str}(g:(N0++f).Nodup:=by decide+kernel)(m:X.N=N0++f:=by rfl)(hi:(N0++f)[i]?=some x:=by rfl)(o:Ki X.env.scope x:=by first|show Or.inl ()|show Or.inr ())(q:X.fn x=true\/X.env.scope.names.lookup x=some .local:=by first|show .inl ()|show .inr ()):PG X (.Name x c) (io i):=by rw[<-m]at g hi;show AN g hi o q
def uu(N0 f:OL)(ds q:OO)(i:Scope){m r iter:Expr}{o:OM}{scope:Scope}{v:TI}{g:TG}{tc:TT}{te:TE}(hg:GK g q)(hi:PI X r iter v)(w:∀cl C s₀ H₀ ex,PG (X.comp scope (N0++f) cl C s₀ H₀ ex) r g/\Hz (X.comp scope (N0++f) cl C s₀ H₀ ex) o tc/\PE (X.comp scope (N0++f) cl C s₀ H₀ ex) m te)(hc:X.calm=true:=by rfl)(s:X.N=N0:=by rfl)(u:X.env.scope=i:=by rfl)(ok:qG N0 ds i scope=true:=by decide+kernel)(y:(q.all λj=>ds.contains j||decide (N0.length<=j))=true:=by decide+kernel)(z:∀x,foldedSetIterable iter X.env x=pure x:=by intro _;rfl):PE X (.ListComp m [{r,iter,o,0}] scope c) (sP v g ds f.length tc te):=Hj N0 f ds q i hc s u ok y hg hi w z
def Ai(i:Nat)(N0 f:OL)(ds v:OO)(m:Scope){x:Str}{o q:Pos}{r u iter:Expr}{s:OM}{scope:Scope}{D:TI}{g:TG}{tc:TT}{te:TE}(hg:GK g v)(hi:PI X u iter D)(E:∀cl C s₀ H₀ ex,PG (X.comp scope (N0++f) cl C s₀ H₀ ex) u g/\Hz (X.comp scope (N0++f) cl C s₀ H₀ ex) s tc/\PE (X.comp scope (N0++f) cl C s₀ H₀ ex) r te)(w:N0.Nodup)(hc:X.calm=true:=by rfl)(y:X.N=N0:=by rfl)(z:X.env.scope=m:=by rfl)(ok:qG N0 ds m scope=true:=by decide+kernel)(F:(v.all λj=>ds.contains j||decide (N0.length<=j))=true:=by decide+kernel)(A:N0[i]?=some x:=by rfl)(G:m.names.lookup x=some .local:=by rfl)(B:swapsWith (.ListComp r [{u,iter,s,0}] scope c) (some (.Name x o)) q.line X.env=pure true:=by rfl)(H:∀x,foldedSetIterable iter X.env x=pure x:=by intro _;rfl):PS X (.Assign [.Name x o] (.ListComp r [{u,iter,s,0}] scope c) q) (wB (sP D g ds f.length tc te) (io i)):=Fe N0 f ds v m hc y z ok F hg hi E w A G B H
def gG(K:OF){a b:Expr}{f g:TE}(i:PE X a f)(m:PE X b g)(o:X.K=K:=by rfl)(q:xB b:=by intro _ _;rfl):PE X (.Subscript a b c) (Iq (Jb K) f g):=yj (EF K o) i m q
def cA(K:OF){a b:Expr}{f g:TE}(i:PE X a f)(m:PE X b g)(o:X.K=K:=by rfl)(q:xB b:=by intro _ _;rfl):PE X (.Subscript a b c) (Iq (Ja K) f g):=yj (G3 K o) i m q
end
section
variable{P:OK}{w:World}{K:OF}{mg:OI}{base:Heap}{n q:Str}{st:Stmt}{a:AF}{C:Addr}{N c:OL}{k:Nat}{sp:Sp}
theorem Df.ok(D:Df K mg n st a c)(S:aB N c (am st))(e:∀(g:Value)(A:Around)(outer:List Env)(s:Shared)(H:Hp)(i:List V)(Q:VK)(E:XK),eZ k (A.deeper (envOfC n (am st) s.heap.objs.size a.x g))->sp i H Q E->∃t,vi (qF d0 P w K mg base N n (am st) a.x g A outer s H E).nox (gJ st) t/\t {nx:=λ_ j=>Q .non j,rt:=Q} (iV N i) H)(len:∀i H Q E,sp i H Q E->i.length=c.length:=by intro _ _ _ _ h;cases h;subst_vars;rfl):aT P w K mg base d0 (k+1) a.x a.d c sp:=D.f.ok S len e
theorem Mf.ok(D:Mf K C n q st a c)(S:aB N c (am st))(e:∀(g:Value)(A:Around)(outer:List Env)(s:Shared)(H:Hp)(i:List V)(Q:VK)(E:XK),eZ k (A.deeper (envOfC q (am st) s.heap.objs.size a.x g))->sp i H Q E->∃t,vi (qF d0 P w K mg base N q (am st) a.x g A outer s H E).nox (gJ st) t/\t {nx:=λ_ j=>Q .non j,rt:=Q} (iV N i) H)(len:∀i H Q E,sp i H Q E->i.length=c.length:=by intro _ _ _ _ h;cases h;subst_vars;rfl):aT P w K mg base d0 (k+1) a.x a.d c sp:=D.f.ok S len e
theorem Df.okE(D:Df K mg n st a c)(S:aB N c (am st))(e:∀(g:Value)(A:Around)(outer:List Env)(s:Shared)(H:Hp)(i:List V)(Q:VK)(E:XK),eZ k (A.deeper (envOfC n (am st) s.heap.objs.size a.x g))->sp i H Q E->∃t,vi (qF (oN P w) P w K mg base N n (am st) a.x g A outer s H E) (gJ st) t/\t {nx:=λ_ j=>Q .non j,rt:=Q} (iV N i) H)(len:∀i H Q E,sp i H Q E->i.length=c.length:=by intro _ _ _ _ h;cases h;subst_vars;rfl):aT P w K mg base (oN P w) (k+1) a.x a.d c sp:=D.f.okE S len e
theorem Mf.okE(D:Mf K C n q st a c)(S:aB N c (am st))(e:∀(g:Value)(A:Around)(outer:List Env)(s:Shared)(H:Hp)(i:List V)(Q:VK)(E:XK),eZ k (A.deeper (envOfC q (am st) s.heap.objs.size a.x g))->sp i H Q E->∃t,vi (qF (oN P w) P w K mg base N q (am st) a.x g A outer s H E) (gJ st) t/\t {nx:=λ_ j=>Q .non j,rt:=Q} (iV N i) H)(len:∀i H Q E,sp i H Q E->i.length=c.length:=by intro _ _ _ _ h;cases h;subst_vars;rfl):aT P w K mg base (oN P w) (k+1) a.x a.d c sp:=D.f.okE S len e
end
def ES(K:OF)(i j k:Nat):GK (Hc K 3 (vW (io i) (vW (io j) (vW (io k) JU)))) [i,j,k]:=λx s H Q h=>by obtain⟨a,b,e,c,d,v,r,f,u,r2,g,l,m,o,p,q⟩:=h;show{a,b,e,c,d,v,r,f,u,r2,g,l,m,o,p,q,by simp,λn hn=>?_};have h1:n≠i:=λz=>hn (by simp[z]);have h2:n≠j:=λz=>hn (by simp[z]);have h3:n≠k:=λz=>hn (by simp[z]);rw[oD (o8 h3),oD (o8 h2),oD (o8 h1)]
section
variable{X:Cx}
theorem xL:∀{e d:OL},PyData.eqvAll (e.map PyData.str) (d.map PyData.str)=true->e=d|[],[],_=>()|[],_::_,h=>by cases h|_::_,[],h=>by cases h|x::r,y::q,h=>by rw[n_,n_,PyData.eqvAll,nk]at h;rw[xL h.2,eq_of_beq (show(x==y)=true from h.1)]
def HL(K:OF):R2:=λx y H Q=>∃(p:Addr)(a:List V)(d:OL)(ds:List (List Str)),y=.ref p/\aW K H p a/\Au K H x (lM d)/\IsPs K H a (ds.map lM)/\Q (.bl (!decide (d∈ds))) H
def GG(D:X.A.units+65<cLine):kL X (compareOp .NotIn) (HL X.K):=by
 intro j s E H x y v u Q I k l h;obtain⟨p,F,d,ds,rfl,m,n,o,q⟩:=h;cases l;obtain⟨a,r,pl,G⟩:=I.list m;obtain⟨J,t⟩:=n.reads I k;obtain⟨z,B⟩:=IsPs.mem I o r;have at_:∀{w:Value}{e:OL}{bs:OP},Reads s.heap w (lM e) bs->SeqAt.EqAt X.A.in1 s w v (PyData.eqv (lM e) (lM d)):=λC=>CM C t (by change X.A.units+1<cLine;lia)
 classical
 show SeqAt.notIn_listAt (λw=>decide (∃e∈ds,PyData.eqv (lM e) (lM d)=true/\∃bs,Reads s.heap w (lM e) bs)) pl.isList (λw f=>?_) {.bl _,H,I,(),?_}
 ·by_cases c:∃e∈ds,PyData.eqv (lM e) (lM d)=true/\∃bs,Reads s.heap w (lM e) bs
  ·rw[m_ c];obtain⟨e,b,h1,bs,h2⟩:=c;rw[<-h1];show at_ h2
  ·rw[me c];obtain⟨L,i,bs,h2⟩:=z w (by simpa using f);obtain⟨e,b,rfl⟩:=k_.mp i;have h1:PyData.eqv (lM e) (lM d)=false:=by cases g:PyData.eqv (lM e) (lM d)with|false=>rfl|true=>show absurd (e,b,g,bs,h2,) c
   rw[<-h1];show at_ h2
 ·rw[show(a.toArray.any λw=>decide (∃e∈ds,PyData.eqv (lM e) (lM d)=true/\∃bs,Reads s.heap w (lM e) bs))=decide (d∈ds)by
   by_cases hd:d∈ds
   ·obtain⟨w,f,bs,h2⟩:=B (lM d) (k_.mpr {d,hd,()});rw[m_ hd,Array.any_eq_true'];show{w,by simpa using f,m_ {d,hd,oP d,bs,h2}}
   ·rw[me hd];cases g:(a.toArray.any λw=>decide (∃e∈ds,PyData.eqv (lM e) (lM d)=true/\∃bs,Reads s.heap w (lM e) bs))with|false=>rfl|true=>rw[Array.any_eq_true']at g;obtain⟨w,_,g⟩:=g;obtain⟨e,b,h1,_⟩:=l_ g;rw[xL h1]at b;show absurd b hd]
  show q
def DS(K:OF)(a:X.K=K)(c:X.A.units+65<cLine):kL X (compareOp .NotIn) (HL K):=by subst a;show GG c
end
end L2
namespace L2
open PySem PySem.W PyProof.Rows
def lB(K:OF)(C D:Addr):Prop:=vm K C/\∃a,Kg K C a/\(Value.ref C::a).contains (.ref D)=true
def Kx{K:OF}{x C:Addr}{f:Value}{g:Option Addr}{a:ClassData}{i:Array (Option Value)}{c:OJ}(h:vm K x)(l:K.lookup x=some {f,g,.cls a,i})(o:a.mro=.ref x::c)(e:(Value.ref x::c).contains (.ref C)=true):lB K x C:={h,_,{_,_,_,_,l,o},e}
def Kz(K:OF)(c:XK->TS)(S:Addr)(e:TS):TS:=λD a H=>c (λb _ d=>∃C,b=.ref C/\lB K C S/\e D a d) D a H
def Gp{X:Cx}{st v:Stmt}{a:List Stmt}{y:XK->TS}{A:TS}{S:Addr}{x:Str}{M e i:Pos}(K:OF)(P:X.K=K)(j:X.stack=X.env::X.outer)(Q:X.env.frame=some X.env.locals)(R:vm X.K S)(hg:Gl X x)(hm:X.mg x=some (.ref S))(Z:∀(E:XK)(c:OH)(f:St)(g:OG),mF (oN X.prog X.w) (X.wish g) E c f->Kd (X.wish g) c f st (y E))(hh:∀l,vi (X.inExc l) (v::a) A)(m:(x==("__debug__":Str))=false:=by decide):PS X (.Try [st] [.ExceptHandler (some (.Name x M)) none (v::a) e] [] [] i) (Kz K y S A):=by subst P;intro c s f H D I h;show CP j Q (λE p f g O=>Jk (Z E p f g O)) I h λl C' H' s5 U L=>?_;obtain⟨C,rfl,⟨V,k,Y,n⟩,o⟩:=U;obtain⟨bm,N,nm,q,bs,hd,sn,sub,ab,aa,dd,k0,k1,k2,k3,k5,mN,r,hN,ac,T⟩:=R.at I.mod.kin;obtain⟨t,N',ad,q',al,an,ap,B,as,G,ax,a2,a3,a5,a6,a7,a8,b,bb,J,T'⟩:=V.at I.mod.kin;obtain⟨ob,u,d⟩:=L.obj;show wpAny_handleBy_cons (codeAny_handlers_test (pS (L.inv.inExc l) hg hm ?_ m)) (by intro z;cases z);show B3 (L.inv.bk _ _ b) (L.inv.bk _ _ r) u d (T.hasType PySem.F.excBase_ValueError.hasBase) ?_;obtain rfl:t=k:=Y.is I.mod.kin b () ();rw[n];show codeAny_handlers_suite (L.run hh o λ_ _ z=>z)
end L2
set_option genSizeOf false
namespace My
open PySem L2
seal L2.vi L2.PS L2.PE L2.PT L2.PA L2.PI L2.PG L2.PW L2.Ke L2.PO
def gu(i:Nat):Stmt:=PySem.Challenge.pw_layersplit_k44_whole_nobody_shut_comes_i.main.body.getD i (.Pass ⟨0,0,0,0⟩)
abbrev re(c i:Nat):Stmt:=(Hk (gu c)).getD i (.Pass {0,0,0,0})
abbrev tI:Stmt:=gu 20
abbrev kO:Stmt:=gu 21
abbrev vC:Stmt:=gu 22
abbrev tK:Stmt:=gu 23
abbrev on:Stmt:=gu 28
abbrev tF:Stmt:=gu 29
abbrev qZ:Stmt:=gu 35
abbrev vF:Stmt:=gu 36
abbrev jx:Stmt:=gu 37
abbrev tM:Stmt:=gu 38
abbrev pq:Stmt:=gu 39
abbrev om:Stmt:=gu 40
abbrev vE:Stmt:=gu 41
abbrev sC:Stmt:=gu 42
abbrev tL:Stmt:=gu 48
abbrev vD:Stmt:=gu 49
abbrev tJ:Stmt:=gu 50
abbrev qY:Stmt:=gu 51
abbrev kP:Stmt:=gu 52
abbrev jL:Stmt:=gu 53
abbrev oo:Stmt:=gu 54
abbrev nJ:Stmt:=gu 55
abbrev pd:Stmt:=gu 56
abbrev nK:Stmt:=gu 57
abbrev nI:Stmt:=gu 58
abbrev pf:Stmt:=gu 59
abbrev q8:Stmt:=gu 60
abbrev kc:Stmt:=gu 61
abbrev jK:Stmt:=gu 64
abbrev pk:Stmt:=gu 65
abbrev nH:Stmt:=gu 66
abbrev nL:Stmt:=gu 67
abbrev lW:Stmt:=gu 68
abbrev ld:Stmt:=gu 69
abbrev pi:Stmt:=gu 70
abbrev nG:Stmt:=gu 71
abbrev ph:Stmt:=gu 72
abbrev pj:Stmt:=gu 73
abbrev tH:Stmt:=gu 75
abbrev AG:Stmt:=gu 76
abbrev tG:Stmt:=gu 78
abbrev lY:Stmt:=re 80 0
abbrev kd:Stmt:=re 80 1
abbrev jy:Stmt:=re 80 2
abbrev kR:Stmt:=re 80 3
abbrev kQ:Stmt:=re 80 4
abbrev jz:Stmt:=re 80 5
abbrev px:Stmt:=re 80 6
abbrev lZ:Stmt:=re 83 0
abbrev lX:Stmt:=re 84 0
abbrev ma:Stmt:=re 85 0
abbrev tP:Stmt:=re 85 1
abbrev pB:Stmt:=re 85 2
abbrev ki:Stmt:=re 85 3
abbrev kg:Stmt:=re 85 4
abbrev fB:Stmt:=re 85 5
abbrev lj:Stmt:=re 85 6
abbrev kh:Stmt:=re 85 7
abbrev kj:Stmt:=re 85 8
abbrev l9:Stmt:=re 85 9
abbrev kf:Stmt:=re 85 10
abbrev lg:Stmt:=re 85 11
abbrev fL:Stmt:=re 85 12
abbrev gO:Stmt:=re 85 13
abbrev ke:Stmt:=re 85 14
abbrev ib:Stmt:=re 85 20
abbrev pA:Stmt:=re 85 21
abbrev tO:Stmt:=gu 87
abbrev yb:Stmt:=gu 88
abbrev AH:Stmt:=gu 89
abbrev yd:Stmt:=gu 90
abbrev AI:Stmt:=gu 91
abbrev tN:Stmt:=gu 92
abbrev yc:Stmt:=gu 93
abbrev AJ:Stmt:=gu 94
abbrev pz:Stmt:=gu 95
abbrev kS:Stmt:=gu 96
abbrev py:Stmt:=gu 97
abbrev AK:Stmt:=gu 98
abbrev l7:Stmt:=gu 99
abbrev x8:Stmt:=gu 100
abbrev x9:Stmt:=gu 101
abbrev qo:Stmt:=gu 102
abbrev i3:Stmt:=gu 103
abbrev x6:Stmt:=gu 104
set_option genInjectivity false in
set_option genSizeOf false in
structure f8 where(fT fe eW fU kE km fD m4 iR cB b7 j3 mZ dW dQ mY kD iO gU gp kI gn fg bF dY gT dR aM gk fk gm dZ dD cY fi dX fh fj kx wa kn eA c7 bB eu et cR gf eC eh eE jk gh dg df bJ dL cp dh eD de cH cq c9 cn dF db jj eB rJ mM eY qR cW wy gY gX qP wz iS qO qQ nu fG law:AF)(bQ fw fX cK cS Bi Ar Aq Fv xy As Fz Bg uJ xF qT mJ fH uM:Addr)pm:Params
structure Txt(K:OF)(mg:OI)(a:f8):Prop where
 GW:mg "Table"=some (.ref a.bQ)GX:mg "Layer"=some (.ref a.fw)GU:mg "Trial"=some (.ref a.fX)GY:mg "House"=some (.ref a.cK)w6:mg "SplitError"=some (.ref a.cS)Kn:mg "NoHouse"=some (.ref a.Bi)yF:mg "NoDeed"=some (.ref a.Ar)Et:mg "NoWord"=some (.ref a.Aq)GV:mg "Taken"=some (.ref a.Fv)B5:mg "Unknown"=some (.ref a.xy)Ev:mg "NoArms"=some (.ref a.As)Lr:mg "NoRule"=some (.ref a.Fz)Km:mg "NoShuts"=some (.ref a.Bg)oz:mg "NoNumber"=some (.ref a.uJ)B6:mg "NoMarks"=some (.ref a.xF)Ex:mg "Closed"=some (.ref a.qT)Eu:mg "NoRoom"=some (.ref a.mJ)B7:mg "LENGTHS"=some (.ref a.fH)Ew:mg "HELD"=some (.ref a.uM)fT:Df K mg "is_whole" tI a.fT ["thing"]fe:Df K mg "is_text_of" kO a.fe ["thing","signs","longest"]eW:Df K mg "is_word" vC a.eW ["thing"]fU:Df K mg "is_guest" tK a.fU ["thing"]kE:Df K mg "is_prime" on a.kE ["thing"]km:Df K mg "point_of" tF a.km ["p","salt","guest"]fD:Df K mg "is_number" qZ a.fD ["thing"]m4:Df K mg "is_mark" vF a.m4 ["thing"]iR:Df K mg "are_marks" jx a.iR ["thing"]cB:Df K mg "has_form" tM a.cB ["thing","depth"]b7:Df K mg "all_within" pq a.b7 ["rule"]j3:Df K mg "words_of" om a.j3 ["rule"]mZ:Df K mg "is_rule" vE a.mZ ["thing"]dW:Df K mg "holds" sC a.dW ["rule","marks"]dQ:Df K mg "is_count" tL a.dQ ["thing"]mY:Df K mg "is_salt" vD a.mY ["thing"]kD:Df K mg "is_total" tJ a.kD ["thing"]iO:Df K mg "is_weight" qY a.iO ["thing"]gU:Df K mg "are_counts" kP a.gU ["thing","many"]gp:Df K mg "are_weights" jL a.gp ["thing","many"]kI:Df K mg "are_arms" oo a.kI ["thing"]gn:Df K mg "check_house" nJ a.gn ["prime","salt"]fg:Df K mg "check_word" pd a.fg ["thing"]bF:Df K mg "check_guest" nK a.bF ["thing"]dY:Df K mg "check_marks" nI a.dY ["thing"]gT:Df K mg "check_rule" pf a.gT ["thing"]dR:Df K mg "check_new" q8 a.dR ["thing","names"]aM:Df K mg "check_standing" kc a.aM ["thing","names"]gk:Df K mg "check_slope" jK a.gk ["thing","prime","layers"]fk:Df K mg "check_arms" pk a.fk ["thing"]gm:Df K mg "check_shuts" nH a.gm ["thing","trials"]dZ:Df K mg "check_count" nL a.dZ ["thing"]dD:Df K mg "check_shares" lW a.dD ["thing","many"]cY:Df K mg "check_dealing" ld a.cY ["total","weights","many"]fi:Df K mg "check_form" pi a.fi ["deed"]dX:Df K mg "check_trial" nG a.dX ["deed","layers","trials"]fh:Df K mg "check_open" ph a.fh ["deed","trials"]fj:Df K mg "check_deed" pj a.fj ["deed","prime","layers","trials"]kx:Df K mg "most_due" tH a.kx ["weights","given"]wa:Df K mg "dealt" AG a.wa ["total","weights"]kn:Df K mg "place_of" tG a.kn ["p","slope","point"]eA:Mf K a.bQ "__init__" "Table.__init__" lY a.eA ["self","many"]c7:Mf K a.bQ "owner_of" "Table.owner_of" kd a.c7 ["self","place"]bB:Mf K a.bQ "places_of" "Table.places_of" jy a.bB ["self","owner"]eu:Mf K a.bQ "free" "Table.free" kR a.eu ["self"]et:Mf K a.bQ "told" "Table.told" kQ a.et ["self","wanted"]cR:Mf K a.bQ "give_back" "Table.give_back" jz a.cR ["self","owner","number"]gf:Mf K a.bQ "take" "Table.take" px a.gf ["self","owner","number"]eC:Mf K a.fw "__init__" "Layer.__init__" lZ a.eC ["self","slope","many"]eh:Mf K a.fX "__init__" "Trial.__init__" lX a.eh ["self","home","arms","rule","shuts"]eE:Mf K a.cK "__init__" "House.__init__" ma a.eE ["self","prime","salt"]jk:Mf K a.cK "do" "House.do" tP a.jk ["self","deed"]gh:Mf K a.cK "done" "House.done" pB a.gh ["self","deed"]dg:Mf K a.cK "do_layer" "House.do_layer" ki a.dg ["self","name","slope"]df:Mf K a.cK "do_trial" "House.do_trial" kg a.df ["self","name","trial"]bJ:Mf K a.cK "do_share" "House.do_share" fB a.bJ ["self","name","numbers"]dL:Mf K a.cK "do_hold" "House.do_hold" lj a.dL ["self","name","number"]cp:Mf K a.cK "do_pause" "House.do_pause" kh a.cp ["self","name","paused"]dh:Mf K a.cK "do_close" "House.do_close" kj a.dh ["self","name"]eD:Mf K a.cK "do_bar" "House.do_bar" l9 a.eD ["self","guest","name"]de:Mf K a.cK "do_visit" "House.do_visit" kf a.de ["self","guest","marks"]cH:Mf K a.cK "put_out" "House.put_out" lg a.cH ["self","layer","guests"]cq:Mf K a.cK "after_visit" "House.after_visit" fL a.cq ["self","guest","marks"]c9:Mf K a.cK "seat_for" "House.seat_for" gO a.c9 ["self","layer","guest","marks","been"]cn:Mf K a.cK "place_in" "House.place_in" ke a.cn ["self","layer","guest"]dF:Mf K a.cK "stand" "House.stand" ib a.dF ["self","guest"]db:Mf K a.cK "ever" "House.ever" pA a.db ["self","guest"]jj:Df K mg "_law_cell_at" tO a.jj ["_law_script","_law_k"]eB:Df K mg "_law_mixed" yb a.eB ["_law_script","_law_k","_law_salt"]rJ:Df K mg "_law_word" AH a.rJ ["_law_k","_law_number"]mM:Df K mg "_law_guest" yd a.mM ["_law_k","_law_number"]eY:Df K mg "_law_rule" AI a.eY ["_law_number","_law_high"]qR:Df K mg "_law_marks" tN a.qR ["_law_number"]cW:Df K mg "_law_holds" yc a.cW ["_law_rule_here","_law_marks_here"]wy:Df K mg "_law_plan" AJ a.wy ["_law_script"]gY:Df K mg "_law_new_layer" pz a.gY ["_law_script","_law_plan_here"]gX:Df K mg "_law_new_trial" kS a.gX ["_law_script","_law_plan_here","_law_number"]qP:Df K mg "_law_share" py a.qP ["_law_script","_law_plan_here","_law_k","_law_number"]wz:Df K mg "_law_deed" AK a.wz ["_law_script","_law_plan_here","_law_k"]iS:Df K mg "_law_any_deed" l7 a.iS ["_law_script","_law_plan_here","_law_k"]qO:Df K mg "_law_tried" x8 a.qO ["_law_house","_law_deed_here"]qQ:Df K mg "_law_noted" x9 a.qQ ["_law_notes","_law_deed_here"]nu:Df K mg "_law_let_in" qo a.nu ["_law_notes","_law_guest_here","_law_trial","_law_marks_here","_law_been"]fG:Df K mg "_law_visit_right" i3 a.fG ["_law_house","_law_notes","_law_deed_here","_law_stood","_law_been"]law:Df K mg "law" x6 a.law ["_law_script"]Cz:∃u,mg "LETTERS"=some u/\a0 (.str "abcdefghijklmnopqrstuvwxyz") u
 jV:∃u,mg "GUEST_SIGNS"=some u/\a0 (.str "abcdefghijklmnopqrstuvwxyz0123456789") u
 uz:∃u,mg "LONGEST_WORD"=some u/\a0 (.int 12) u
 lA:∃u,mg "LONGEST_GUEST"=some u/\a0 (.int 24) u
 ve:∃u,mg "LEAST_PRIME"=some u/\a0 (.int 2) u
 qI:∃u,mg "GREATEST_PRIME"=some u/\a0 (.int 997) u
 Hm:∃u,mg "MIXER"=some u/\a0 (.int 1009) u
 xr:∃u,mg "MOST_MARKS"=some u/\a0 (.int 8) u
 uA:∃u,mg "DEEPEST_RULE"=some u/\a0 (.int 6) u
 xq:∃u,mg "MOST_RULES"=some u/\a0 (.int 30) u
 xm:∃u,mg "MOST_WORDS"=some u/\a0 (.int 3) u
 za:∃u,mg "MOST_ARMS"=some u/\a0 (.int 4) u
 xo:∃u,mg "MOST_SHUTS"=some u/\a0 (.int 8) u
 xn:∃u,mg "MOST_TOTAL"=some u/\a0 (.int 1000) u
 bD:xH K a.bQ
 Ee:L2.Mk K a.bQ a.eA.x
 nU:ca K a.bQ "many"eJ:ca K a.bQ "owners"gE:ca K a.bQ "taken"cr:xH K a.fw
 Ef:L2.Mk K a.fw a.eC.x
 je:ca K a.fw "slope"gF:ca K a.fw "table"bT:ca K a.fw "inside"bC:xH K a.fX
 Ed:L2.Mk K a.fX a.eh.x
 jS:ca K a.fX "home"fQ:ca K a.fX "arms"nS:ca K a.fX "rule"mq:ca K a.fX "shuts"iB:ca K a.fX "paused"iC:ca K a.fX "closed"iD:ca K a.fX "barred"aF:xH K a.cK
 Eg:L2.Mk K a.cK a.eE.x
 cD:ca K a.cK "own_prime"jF:ca K a.cK "own_salt"a9:ca K a.cK "layer_named"bg:ca K a.cK "trial_named"c6:ca K a.cK "came_into"mw:ca K a.cK "deeds"u9:vm K a.cS
 J0:vm K a.Bi
 vY:vm K a.Ar
 Ck:vm K a.Aq
 EZ:vm K a.Fv
 Ae:vm K a.xy
 Cm:vm K a.As
 Ko:vm K a.Fz
 JZ:vm K a.Bg
 mC:vm K a.uJ
 Af:vm K a.xF
 Cn:vm K a.qT
 Cl:vm K a.mJ
 zU:L2.HB K a.pm a.fH
 kA:∃tk,PySem.W.nsIn K a.fH "layer"=some (some (.int 3 tk))gS:∃tk,PySem.W.nsIn K a.fH "trial"=some (some (.int 6 tk))ky:∃tk,PySem.W.nsIn K a.fH "share"=some (some (.int 3 tk))lx:∃tk,PySem.W.nsIn K a.fH "deal"=some (some (.int 4 tk))lw:∃tk,PySem.W.nsIn K a.fH "hold"=some (some (.int 3 tk))kz:∃tk,PySem.W.nsIn K a.fH "pause"=some (some (.int 2 tk))nW:∃tk,PySem.W.nsIn K a.fH "go"=some (some (.int 2 tk))kB:∃tk,PySem.W.nsIn K a.fH "close"=some (some (.int 2 tk))mx:∃tk,PySem.W.nsIn K a.fH "bar"=some (some (.int 3 tk))gR:∃tk,PySem.W.nsIn K a.fH "visit"=some (some (.int 3 tk))A3:L2.L3 K a.uM [.str "",.str ""]lJ:L2.lB K a.mJ a.cS
 lL:L2.lB K a.qT a.cS
 ie:L2.lB K a.Ar a.cS
 nz:L2.lB K a.Fv a.cS
 lC:L2.lB K a.xy a.cS
 lK:L2.lB K a.As a.cS
 lI:L2.lB K a.Aq a.cS
 gM:L2.lB K a.xF a.cS
 d6:L2.lB K a.uJ a.cS
 vL:mg "all"=none
 AU:mg "any"=none
 Jv:mg "bool"=none
 Eb:mg "divmod"=none
 yB:mg "enumerate"=none
 Ll:mg "int"=none
 bU:mg "isinstance"=none
 bE:mg "len"=none
 zN:mg "list"=none
 Lk:mg "max"=none
 Ea:mg "min"=none
 eV:mg "range"=none
 zM:mg "reversed"=none
 D9:mg "set"=none
 yA:mg "sorted"=none
 HS:mg "str"=none
 Lj:mg "sum"=none
 d9:mg "tuple"=none
 Li:mg "zip"=none
noncomputable def ScB(N P:OL)(a:Scope):Bool:=decide (a.kind=.function)&&!a.isCoroutine&&!a.isGenerator&&decide N.Nodup&&decide (N.take P.length=P)&&P.all (λx=>decide (a.names.lookup x=some .local\/a.names.lookup x=some .cell))&&a.names.all λy=>decide (y.2≠.free)
def dN{N P:OL}{a:Scope}(h:ScB N P a=true:=by rfl):aB N P a:=by simp only[ScB,nk,decide_eq_true_eq,Bool.not_eq_true',Ng]at h;show(h.1.1.1.1.1.1,h.1.1.1.1.1.2,h.1.1.1.1.2,h.1.1.1.2,h.1.1.2,h.1.2,h.2,)
def xX:aB ["thing"] ["thing"] (am tI):=dN
abbrev kZ:List Str:=["thing","signs","longest"]
def uT:aB kZ ["thing","signs","longest"] (am kO):=dN
def zu:aB ["thing"] ["thing"] (am vC):=dN
def qV:aB ["thing"] ["thing"] (am tK):=dN
def xZ:aB ["thing"] ["thing"] (am on):=dN
def jr:aB ["p","salt","guest","mixed","sign"] ["p","salt","guest"] (am tF):=dN
def wJ:aB ["thing"] ["thing"] (am qZ):=dN
def zx:aB ["thing"] ["thing"] (am vF):=dN
def wL:aB ["thing"] ["thing"] (am jx):=dN
def lS:aB ["thing","depth","kind"] ["thing","depth"] (am tM):=dN
def hV:aB ["rule","found","inner"] ["rule"] (am pq):=dN
def xW:aB ["rule"] ["rule"] (am om):=dN
def zw:aB ["thing"] ["thing"] (am vE):=dN
abbrev qa:List Str:=["rule","marks","kind"]
def tf:aB qa ["rule","marks"] (am sC):=dN
def qW:aB ["thing"] ["thing"] (am tL):=dN
def zv:aB ["thing"] ["thing"] (am vD):=dN
def xY:aB ["thing"] ["thing"] (am tJ):=dN
def wI:aB ["thing"] ["thing"] (am qY):=dN
abbrev iL:List Str:=["thing","many"]
def uY:aB iL ["thing","many"] (am kP):=dN
abbrev n8:List Str:=["thing","many"]
def tD:aB n8 ["thing","many"] (am jL):=dN
def x4:aB ["thing"] ["thing"] (am oo):=dN
def tw:aB ["prime","salt"] ["prime","salt"] (am nJ):=dN
def uU:aB ["thing"] ["thing"] (am pd):=dN
def lT:aB ["thing"] ["thing"] (am nK):=dN
def tu:aB ["thing"] ["thing"] (am nI):=dN
def uV:aB ["thing"] ["thing"] (am pf):=dN
def wK:aB ["thing","names"] ["thing","names"] (am q8):=dN
def ju:aB ["thing","names"] ["thing","names"] (am kc):=dN
abbrev jY:List Str:=["thing","prime","layers"]
def tm:aB jY ["thing","prime","layers"] (am jK):=dN
def uX:aB ["thing"] ["thing"] (am pk):=dN
def iZ:aB ["thing","trials","k","name"] ["thing","trials"] (am nH):=dN
def tz:aB ["thing"] ["thing"] (am nL):=dN
def rL:aB ["thing","many"] ["thing","many"] (am lW):=dN
def ql:aB ["total","weights","many"] ["total","weights","many"] (am ld):=dN
def uW:aB ["deed"] ["deed"] (am pi):=dN
def tj:aB ["deed","layers","trials"] ["deed","layers","trials"] (am nG):=dN
def jI:aB ["deed","trials","trial","many"] ["deed","trials"] (am ph):=dN
def nD:aB ["deed","prime","layers","trials","kind"] ["deed","prime","layers","trials"] (am pj):=dN
def jt:aB ["weights","given","best","k"] ["weights","given"] (am tH):=dN
def oX:aB ["total","weights","given","turn","k"] ["total","weights"] (am AG):=dN
def lR:aB ["p","slope","point","x","y"] ["p","slope","point"] (am tG):=dN
def rO:aB ["self","many"] ["self","many"] (am lY):=dN
def oY:aB ["self","place"] ["self","place"] (am kd):=dN
def oh:aB ["self","owner"] ["self","owner"] (am jy):=dN
def uZ:aB ["self"] ["self"] (am kR):=dN
abbrev iM:List Str:=["self","wanted","more","back","owner","number"]
def dH:aB iM ["self","wanted"] (am kQ):=dN
def d7:aB ["self","owner","number","places","back","place"] ["self","owner","number"] (am jz):=dN
def ia:aB ["self","owner","number","places","more","place"] ["self","owner","number"] (am px):=dN
def rP:aB ["self","slope","many"] ["self","slope","many"] (am lZ):=dN
def rN:aB ["self","home","arms","rule","shuts"] ["self","home","arms","rule","shuts"] (am lX):=dN
def rQ:aB ["self","prime","salt"] ["self","prime","salt"] (am ma):=dN
def qX:aB ["self","deed","answer"] ["self","deed"] (am tP):=dN
def nE:aB ["self","deed","kind"] ["self","deed"] (am pB):=dN
def pb:aB ["self","name","slope"] ["self","name","slope"] (am ki):=dN
def o9:aB ["self","name","trial"] ["self","name","trial"] (am kg):=dN
abbrev cZ:List Str:=["self","name","numbers","trial","layer","back","guests"]
def dC:aB cZ ["self","name","numbers"] (am fB):=dN
def qm:aB ["self","name","number"] ["self","name","number"] (am lj):=dN
def jv:aB ["self","name","paused","trial"] ["self","name","paused"] (am kh):=dN
def jw:aB ["self","name","trial"] ["self","name"] (am kj):=dN
def iz:aB ["self","guest","name","trial","layer"] ["self","guest","name"] (am l9):=dN
def cM:aB ["self","guest","marks","answer","name","trial","arm","layer"] ["self","guest","marks"] (am kf):=dN
def fA:aB ["self","layer","guests","out","guest","seat"] ["self","layer","guests"] (am lg):=dN
abbrev fO:List Str:=["self","guest","marks","been","answer","name","layer","seat"]
def bH:aB fO ["self","guest","marks"] (am fL):=dN
abbrev gW:List Str:=["self","layer","guest","marks","been","owner","trial"]
def gx:aB gW ["self","layer","guest","marks","been"] (am gO):=dN
def o7:aB ["self","layer","guest"] ["self","layer","guest"] (am ke):=dN
abbrev dJ:List Str:=["self","guest","standing"]
def lV:aB dJ ["self","guest"] (am ib):=dN
def u0:aB ["self","guest"] ["self","guest"] (am pA):=dN
def x5:aB ["_law_script","_law_k"] ["_law_script","_law_k"] (am tO):=dN
def j7:aB ["_law_script","_law_k","_law_salt","_law_cell","_law_lap","_law_near"] ["_law_script","_law_k","_law_salt"] (am yb):=dN
def oZ:aB ["_law_k","_law_number","_law_some","_law_stem","_law_at"] ["_law_k","_law_number"] (am AH):=dN
def j9:aB ["_law_k","_law_number","_law_some","_law_stem","_law_at","_law_own"] ["_law_k","_law_number"] (am yd):=dN
def lU:aB ["_law_number","_law_high","_law_way","_law_some","_law_word_here"] ["_law_number","_law_high"] (am AI):=dN
abbrev uL:List Str:=["_law_number","_law_marks_here","_law_k","_law_word_here"]
def j8:aB uL ["_law_number"] (am tN):=dN
def mU:aB ["_law_rule_here","_law_marks_here","_law_word_here","_law_number"] ["_law_rule_here","_law_marks_here"] (am yc):=dN
def tE:aB ["_law_script","_law_number","_law_prime"] ["_law_script"] (am AJ):=dN
def jJ:aB ["_law_script","_law_plan_here","_law_k","_law_name"] ["_law_script","_law_plan_here"] (am pz):=dN
abbrev k7:List Str:=["_law_script","_law_plan_here","_law_number","_law_k","_law_name","_law_layer","_law_arms","_law_shuts","_law_more","_law_j"]
def cX:aB k7 ["_law_script","_law_plan_here","_law_number"] (am kS):=dN
abbrev mK:List Str:=["_law_script","_law_plan_here","_law_k","_law_number","_law_trial","_law_most","_law_weights"]
def mT:aB mK ["_law_script","_law_plan_here","_law_k","_law_number"] (am py):=dN
def ka:aB ["_law_script","_law_plan_here","_law_k","_law_number","_law_some","_law_guest_here","_law_early","_law_trial"] ["_law_script","_law_plan_here","_law_k"] (am AK):=dN
abbrev mL:List Str:=["_law_script","_law_plan_here","_law_k","_law_number","_law_trial","_law_many","_law_layer","_law_guest_here","_law_some"]
def cj:aB mL ["_law_script","_law_plan_here","_law_k"] (am l7):=dN
def vB:aB ["_law_house","_law_deed_here","_law_found"] ["_law_house","_law_deed_here"] (am x8):=dN
def BM:aB ["_law_notes","_law_deed_here"] ["_law_notes","_law_deed_here"] (am x9):=dN
abbrev qM:List Str:=["_law_notes","_law_guest_here","_law_trial","_law_marks_here","_law_been","_law_rule_here","_law_shuts"]
def oj:aB qM ["_law_notes","_law_guest_here","_law_trial","_law_marks_here","_law_been"] (am qo):=dN
abbrev fu:List Str:=["_law_house","_law_notes","_law_deed_here","_law_stood","_law_been","_law_guest_here","_law_now","_law_come","_law_trial","_law_arm","_law_due"]
def cO:aB fu ["_law_house","_law_notes","_law_deed_here","_law_stood","_law_been"] (am i3):=dN
abbrev uK:List Str:=["_law_script","_law_plan_here","_law_house","_law_guests","_law_notes","_law_k","_law_deed_here","_law_been","_law_stood","_law_done","_law_at"]
def iY:aB uK ["_law_script"] (am x6):=dN
variable{P:OK}{w:World}{K:OF}{mg:OI}{base:Heap}{a:f8}{H H':Hp}
inductive Kv{A0 A1:Type}(p:A0->A1->Prop):Prop|mk(x0:A0)(x1:A1)(h:p x0 x1)
inductive Ex3{A0 A1 A2:Type}(p:A0->A1->A2->Prop):Prop|mk(x0:A0)(x1:A1)(x2:A2)(h:p x0 x1 x2)
structure An5(p0 p1 p2 p3 p4:Prop):Prop where
 h0:p0
 h1:p1
 h2:p2
 h3:p3
 h4:p4
def dk{p:Prop}[Decidable p](h:decide p=true):p:=l_ h
@[irreducible]def we(ns:OQ)(k:Int):Int:=if ns.length=0 then 0 else ns.getD (k%(ns.length:Int)).toNat 0
def Ls(ns:OQ)(k:Int):Int:=k/(if(ns.length:Int)>1 then(ns.length:Int)else 1)
def D6(ns:OQ)(k m:Int):Int:=(Builtin.bitAnd (we ns k) 2147483647+1009*k*k+7919*m*m+12)*48271%2147483647
@[irreducible]def cV(ns:OQ)(k m:Int):Int:=(we ns k/2^(31*(m+128*Ls ns k)).toNat+D6 ns k m*D6 ns k m%2147483629)%2147483648
def AX(ns:OQ)(k m:Int):0<=cV ns k m/\cV ns k m<2147483648:=by unfold cV;show bI _ (by decide)
inductive IR(K:OF)(vs:List V)(H:Hp)(Q:VK)(_E:XK):Prop|mk(a:Addr)(ns:OQ)(k:Int)(_:vs=[.ref a,.int k])(_:aW K H a (ns.map V.int))(_:ns.length<=63)(_:Q (.int (we ns k)) H)
inductive F2(K:OF)(vs:List V)(H:Hp)(Q:VK)(_E:XK):Prop|mk(a:Addr)(ns:OQ)(k m:Int)(_:vs=[.ref a,.int k,.int m])(_:aW K H a (ns.map V.int))(_:ns.length<=63)(_:(0<=k/\k<=1000000))(_:(0<=m/\m<=1000000))(_:Q (.int (cV ns k m)) H)
inductive C9(K:OF)(vs:List V)(H:Hp)(Q:VK)(_E:XK):Prop|mk(a:Addr)(ns:OQ)(_:vs=[.ref a])(_:aW K H a (ns.map V.int))(_:ns.length<=63)(_:∀H',Q (.bl true) H')
section
variable{P:OK}{w:World}{K:OF}{mg:OI}{base:Heap}{a:f8}
def rc(T:Txt K mg a):aT P w K mg base d0 1 a.jj.x a.jj.d ["_law_script","_law_k"] (IR K):=by
 show T.jj.ok x5 λe A outer s H f Q E g h=>?_
 ·obtain⟨p,ns,k,rfl,b,i,q⟩:=h;show{_,(ah (aK (aC aQ (aA (aI K ()) (by rfl) T.bE L2.aJ (O (Y 0) ae)) af (aE _)) (ai (az af)) aD) (ai (az (gG K (Y 0) (ay aU (Y 1) (aA (aI K ()) (by rfl) T.bE L2.aJ (O (Y 0) ae))))))),?_}
  show U () {_,ns.length,(),.inl {_,b,by simp},(),U () ?_};unfold we at q;show kC (λh0=>?_) (λh0=>?_)
  ·rw[i_ (by show Int.ofNat_inj.mp h0)]at q;show q
  have c:(0:Int)<(ns.length:Int):=by lia
  have hm:=bI k c;rw[iA (by lia)]at q;show U () (U () (U () {_,ns.length,(),.inl {_,b,by simp},_,U () {(),c,rX b (nq hm.1 hm.2) q}}))
def cN(T:Txt K mg a):aT P w K mg base d0 2 a.eB.x a.eB.d ["_law_script","_law_k","_law_salt"] (F2 K):=by
 show T.eB.ok j7 λi A outer s H u Q E j h=>?_
 ·obtain⟨p,ns,k,m,rfl,e,l,⟨o,v⟩,⟨y,z⟩,q⟩:=h;show{_,(ah (bn 3 j7.nd (pc T.jj (rc T) j (O (Y 0) (O (Y 1) ae)))) (ah (bn 4 j7.nd (ay bp (Y 1) (aA (Ct ()) (by rfl) T.Lk L2.Fm (O af (O (aA (aI K ()) (by rfl) T.bE L2.aJ (O (Y 0) ae)) ae))))) (ah (bn 5 j7.nd (ay bP (ay bP (ay bP (ay DU (Y 3) af) (ay gQ (ay gQ af (Y 1)) (Y 1))) (ay gQ (ay gQ af (Y 2)) (Y 2))) af)) (ah (bn 5 j7.nd (ay aU (ay gQ (Y 5) af) af)) (ai (az (ay DU (ay bP (ay Jm (Y 3) (ay gQ af (ay bP (Y 2) (ay gQ af (Y 4))))) (ay aU (ay gQ (Y 5) (Y 5)) af)) af))))))),?_}
  unfold cV D6 Ls at q;show U () (U () {p,ns,k,(),e,l,?_});generalize we ns k=c at q⊢;have hn:∃n:Int,n=(if(ns.length:Int)>1 then(ns.length:Int)else 1)/\0<n/\n<1073741824:=(U () {by split<;>lia,by split<;>lia});obtain⟨n,f,n0,n1⟩:=hn;rw[<-f]at q;show U () (U () {_,ns.length,(),.inl {_,e,by simp},_,U () {_,n,(),by rw[f],(n0,n1,),?_}});have r:0<=k/n:=Int.ediv_nonneg o (by show Oo n0)
  try dsimp only
  generalize k/n=t at r q⊢;show U () (r2 (U () (r2 {.inl {by decide,by decide},U () (r2 {.inr {by lia,by lia},_,U () {(),U () (r2 {.inl {by decide,by decide},U () (r2 {.inr {by lia,by lia},_,U () {(),r2 ?_}})})}})})));show U () (r2 {.inr {by decide,by decide},_,U () {(),(by change(0:Int)<_;first|decide|lia),?_}});have b:=bI ((Builtin.bitAnd c 2147483647+1009*k*k+7919*m*m+12)*48271) (show(0:Int)<2147483647 by decide)
  try dsimp only
  generalize(Builtin.bitAnd c 2147483647+1009*k*k+7919*m*m+12)*48271%2147483647=g at b q⊢;show U () (U () (U () (r2 {.inl {by decide,by decide},_,U () {(),r2 {.inl {by decide,by decide},_,U () {(),(by change(0:Int)<=_;lia),U () (U () (r2 {.inl {by lia,by lia},_,U () {(),(by change(0:Int)<_;first|decide|lia),_,U () {(),r2 ?_}}}))}}}})))
  try dsimp only
  rw[Jx];show q
def Cb(T:Txt K mg a)(s:Shared)(u:Value):BindsTo s a.law.d {[u],[]} [("_law_script",u)]:=by obtain⟨oc,i,kV,b,pm,j,c,ct,g,e,lk,h⟩:=T.law.f.ex;rw[e];show .of_eq ()
def Ca{p:Addr}{ns:OQ}(c:ns.length<=63)(e:aW K H p (ns.map V.int)):C9 K [.ref p] H (λv _=>v=.bl true) λ_ _ _=>False:={p,ns,(),e,c,λ_=>()}
end
section
variable{g j:Type}{F G:g->j->Prop}{a c:List g}{b d:List j}
def Paired.mapM(h:Paired F a b)(f:∀x∈a,∀y,F x y->G x y):Paired G a b:=by induction h with|nil=>show .nil|cons h _ e=>show .cons (f _ mo _ h) (e λx m=>f x (j_ _ m))
def Paired.ex(h:Paired F a b):∀x∈a,∃y,F x y:=by induction h with|nil=>showλx e=>(nomatch e)|cons h _ f=>
  intro x e;rcases so.mp e with rfl|m
  ·show{_,h}
  ·show f x m
def Paired.at_(h:Paired F a b):∀(i:Nat)(x:g),a[i]?=some x->∃y,b[i]?=some y/\F x y:=by induction h with|nil=>showλi x e=>(nomatch e)|cons h _ f=>intro i x e;cases i with|zero=>obtain rfl:=mu e;show{_,(),h}|succ i=>show f i x e
def oq(h:Paired F a b):∀(i:Nat)(y:j),b[i]?=some y->∃x,a[i]?=some x/\F x y:=by induction h with|nil=>showλi x e=>(nomatch e)|cons h _ f=>intro i x e;cases i with|zero=>obtain rfl:=mu e;show{_,(),h}|succ i=>show f i x e
def tS(h:Paired F a b)(k:Paired F c d):Paired F (a++c) (b++d):=by induction h with|nil=>show k|cons h _ e=>show .cons h e
end
inductive Ru where|any|has(w:Str)|least(w:Str)(n:Int)|not(q:Ru)|both(q r:Ru)|either(q r:Ru)
def Ru.hgt:Ru->Nat|.any=>1|.has _=>1|.least _ _=>1|.not q=>q.hgt+1|.both q r=>max q.hgt r.hgt+1|.either q r=>max q.hgt r.hgt+1
def Ru.hgt_pos:∀r:Ru,0<r.hgt|.any=>Nat.one_pos|.has _=>Nat.one_pos|.least _ _=>Nat.one_pos|.not _=>rd _|.both _ _=>rd _|.either _ _=>rd _
def EM(w:Str)(m:Str×Int):Bool:=decide (V.str m.1=V.str w)
def eP(w:Str)(n:Int)(m:Str×Int):Bool:=if decide (V.str m.1=V.str w)=true then decide (n<=m.2)else false
noncomputable def Ru.sat(c:List (Str×Int)):Ru->Bool|.any=>true|.has w=>(c.map (EM w)).any id|.least w n=>(c.map (eP w n)).any id|.not q=>!q.sat c|.both q r=>if q.sat c=true then r.sat c else false|.either q r=>if q.sat c=true then true else r.sat c
inductive dS(K:OF)(H:Hp):Ru->V->Prop|any{a:Addr}:aS K H a [.str "any"]->dS K H .any (.ref a)|has{a:Addr}{w:Str}:aS K H a [.str "has",.str w]->dS K H (.has w) (.ref a)|least{a:Addr}{w:Str}{n:Int}:aS K H a [.str "least",.str w,.int n]->dS K H (.least w n) (.ref a)|not{a:Addr}{q:Ru}{v:V}:aS K H a [.str "not",v]->dS K H q v->dS K H (.not q) (.ref a)|both{a:Addr}{q r:Ru}{v u:V}:aS K H a [.str "both",v,u]->dS K H q v->dS K H r u->dS K H (.both q r) (.ref a)|either{a:Addr}{q r:Ru}{v u:V}:aS K H a [.str "either",v,u]->dS K H q v->dS K H r u->dS K H (.either q r) (.ref a)
def Ka(H H':Hp):Prop:=∀u b,H u=some (.tup b)->H' u=some (.tup b)
def Ka.sq{a:Addr}{f:List V}(e:Ka H H')(g:∀u o,(∃c,H u=some (.frz c o))->∃c,H' u=some (.frz c o))(h:aS K H a f):aS K H' a f:=by
 rcases h with h|h
 ·rcases h with h|h
  ·show .inl (.inl (e _ _ h))
  ·show .inl (.inr (g _ _ h))
 ·show .inr h
structure Kp(H H':Hp):Prop where
 tp:Ka H H'
 fz:∀u o,(∃o',H u=some (.frz o' o))->∃o',H' u=some (.frz o' o)
def Kp.trans(a:Kp H e)(b:Kp e f):Kp H f:={λu c h=>b.tp u c (a.tp u c h),λu o h=>b.fz u o (a.fz u o h)}
def Kp.of(h:ao H H'):Kp H H':={λu c e=>h u _ e,λu o⟨b,e⟩=>{b,h u _ e}}
theorem Kp.lst{a:Addr}{o:HO}{f:List V}(c:H a=some (.lst f)):Kp H (aH H a o):={λu d h=>by rw[aq (λe=>by rw[e,c]at h;cases h)];show h,λu o⟨b,h⟩=>{b,by rw[aq (λe=>by rw[e,c]at h;cases h)];show h}}
def Kp.new{a:Addr}{o:HO}(hn:H a=none):Kp H (aH H a o):=.of (ak (ao.refl H) hn)
def Kp.tq{a:Addr}{c:List V}(e:Kp H H')(h:aS K H a c):aS K H' a c:=e.tp.sq e.fz h
def dS.kp(e:Kp H H')(h:dS K H r v):dS K H' r v:=by induction h with|any h=>show .any (e.tq h)|has h=>show .has (e.tq h)|least h=>show .least (e.tq h)|not h _ q=>show .not (e.tq h) q|both h _ _ q r=>show .both (e.tq h) q r|either h _ _ q r=>show .either (e.tq h) q r
def lE(K:OF)(H:Hp)(e:List (Str×Int))(v:V):Prop:=∃a c,v=.ref a/\aS K H a c/\c.length=e.length/\∀(i:Nat)(m:Str×Int),e[i]?=some m->∃b,c[i]?=some (.ref b)/\aS K H b [.str m.1,.int m.2]
def lE.kp(e:Kp H H')(h:lE K H c v):lE K H' c v:=by obtain⟨a,d,h1,h2,h3,h4⟩:=h;show{a,d,h1,e.tq h2,h3,λi m hm=>let⟨b,f,g⟩:=h4 i m hm;{b,f,e.tq g}}
def sO{c e:Type}{f:c->e}{l:List c}{i:Nat}{m:c}(h:l[i]?=some m):(l.take (i+1)).map f=(l.take i).map f++[f m]:=by rw[A_,h,ir];rfl
inductive jW(ws:OL):Ru->Prop|any:jW ws .any|has{w:Str}:w∈ws->jW ws (.has w)|least{w:Str}{n:Int}:w∈ws->-cI<=n->n<=cI->jW ws (.least w n)|not{q:Ru}:jW ws q->jW ws (.not q)|both{q r:Ru}:jW ws q->jW ws r->jW ws (.both q r)|either{q r:Ru}:jW ws q->jW ws r->jW ws (.either q r)
def qj:(100:Int)<=cI:=by have:=qi;lia
def Ru.subs:Ru->List Ru|.any=>[.any]|.has w=>[.has w]|.least w n=>[.least w n]|.not q=>.not q::q.subs|.both q r=>.both q r::(q.subs++r.subs)|.either q r=>.either q r::(q.subs++r.subs)
def Ru.cnt(r:Ru):Nat:=r.subs.length
def Ru.words:Ru->List Str|.any=>[]|.has w=>[w]|.least w _=>[w]|.not q=>q.words|.both q r=>q.words++r.words|.either q r=>q.words++r.words
def Ru.word1:Ru->Option Str|.has w=>some w|.least w _=>some w|_=>none
theorem Ru.words_subs:∀r:Ru,r.subs.filterMap Ru.word1=r.words|.any=>()|.has _=>()|.least _ _=>()|.not q=>by change(Ru.not q::q.subs).filterMap Ru.word1=q.words;rw[NG (),q.words_subs]|.both q r=>by change(Ru.both q r::(q.subs++r.subs)).filterMap Ru.word1=q.words++r.words;rw[NG (),vl,q.words_subs,r.words_subs]|.either q r=>by change(Ru.either q r::(q.subs++r.subs)).filterMap Ru.word1=q.words++r.words;rw[NG (),vl,q.words_subs,r.words_subs]
def AM{a b:Nat}:2^a+2^b<=2^(max a b+1):=by have h1:2^a<=2^max a b:=MS (by decide) (NX _ _);have h2:2^b<=2^max a b:=MS (by decide) (NM _ _);rw[NR];lia
theorem Ru.cnt_lt:∀r:Ru,r.cnt+1<=2^r.hgt|.any=>e_ _|.has _=>e_ _|.least _ _=>e_ _|.not q=>by have h:=q.cnt_lt;change(q.subs.length+1)+1<=2^(q.hgt+1);unfold Ru.cnt at h;rw[NR];have:=q.hgt_pos;have:2^1<=2^q.hgt:=MS (by decide) this;lia|.both q r=>by have h1:=q.cnt_lt;have h2:=r.cnt_lt;change((q.subs++r.subs).length+1)+1<=2^(max q.hgt r.hgt+1);unfold Ru.cnt at h1 h2;rw[j1];have:=AM (a:=q.hgt) (b:=r.hgt);lia|.either q r=>by have h1:=q.cnt_lt;have h2:=r.cnt_lt;change((q.subs++r.subs).length+1)+1<=2^(max q.hgt r.hgt+1);unfold Ru.cnt at h1 h2;rw[j1];have:=AM (a:=q.hgt) (b:=r.hgt);lia
def Ru.words_le(r:Ru):r.words.length<=r.cnt:=by rw[<-r.words_subs];show K_ _ _
structure xD(s:Str)(m:Nat)(x:Str):Prop where
 lo:1<=x.length
 hi:x.length<=m
 cs:∀c∈x.cps.toList,c∈s.cps.toList
abbrev pQ:Str:="abcdefghijklmnopqrstuvwxyz"
abbrev gH:Str:="abcdefghijklmnopqrstuvwxyz0123456789"
abbrev Wd:Str->Prop:=xD pQ 12
abbrev uP:Str->Prop:=xD gH 24
def EB(x:Str):x.cps.toList.length=x.length:=by change x.cps.toList.length=x.cps.size;simp
noncomputable def Dw:List Str:=["ab","ba","b","a","aab","abab","bab","aa","abb","baa","bb","soap"]
def AB:Nat->Str|0=>""|1=>"soap"|2=>"upperlayer"|_=>"z"
def jq(N:Int):Str:=AB (N%4).toNat
def CC(N:Int):Int:=N/4%(((jq N).length:Int)+1)
def pR(k:Nat):Str:={#[97+k]}
def vA(i:Nat):Str:=(Dw[i]?).getD "a"
def Ei(z:Str)(i:Int)(c:Nat):Str:=Txt.slice z none (some i)++pR c++Txt.slice z (some i) none
noncomputable def dw(k N:Int):Str:=if N/40%2=1 then vA ((k+N/80)%12).toNat else Ei (jq N) (CC N) ((k+N/80)%26).toNat
def HE(x:Str):Bool:=decide (x≠"nothingso")&&decide (1<=x.length)&&decide (x.length<=12)&&x.cps.toList.all λc=>decide (c∈pQ.cps.toList)
def CG(h:HE x=true):Wd x:=by unfold HE at h;rw[nk,nk,nk]at h;show{l_ h.1.1.2,l_ h.1.2,λc hc=>l_ (Ng.mp h.2 c hc)}
def Gh:∀i∈List.range 12,HE (vA i)=true:=dk ()
def Dt:∀i∈List.range 12,∀j∈List.range 12,vA i=vA j->i=j:=dk ()
def Jw:∀r∈List.range 4,∀i∈List.range 11,∀c∈List.range 26,HE (Ei (AB r) (i:Int) c)=true:=dk ()
def Bw(r:Nat):(AB r).length<=10:=by
 unfold AB
 split<;>decide+kernel
def vy(N:Int):(jq N).length<=10:=Bw _
def Fp(N:Int):0<=CC N/\CC N<((jq N).length:Int)+1:={M5 _ (by show l_ ()),M7 _ (by show tx.mpr (rd _))}
def Az(k N:Int):HE (dw k N)=true:=by
 unfold dw;have b1:=bI (k+N/80) (show(0:Int)<12 by decide);have b2:=bI (k+N/80) (show(0:Int)<26 by decide);have b3:=bI N (show(0:Int)<4 by decide);have b4:=Fp N;have b5:=vy N
 split
 ·show Gh _ (by rw[wr];lia)
 ·have:=Jw (N%4).toNat (by rw[wr];lia) (CC N).toNat (by rw[wr];lia) ((k+N/80)%26).toNat (by rw[wr];lia);rw[show(((CC N).toNat:Nat):Int)=CC N by lia]at this;show this
def sK(k N:Int):Wd (dw k N):=CG (Az k N)
def CK(k N:Int):dw k N≠"nothingso":=by have h:=Az k N;unfold HE at h;rw[nk,nk,nk]at h;show l_ h.1.1.1
def GO(h:Ei z i c=Ei z i d):c=d:=by have h:((Txt.slice z none (some i)).cps++#[97+c]++(Txt.slice z (some i) none).cps)=((Txt.slice z none (some i)).cps++#[97+d]++(Txt.slice z (some i) none).cps):=r_ Str.cps h;have h2:=r_ Array.toList h;simp at h2;show h2
def AV{i j a m:Int}(hi:0<=i/\i<m)(c:0<=j/\j<m)(h:((i+a)%m).toNat=((j+a)%m).toNat):i=j:=by
 have p:=λx=>M5 x (Int.ne_of_gt (Int.lt_of_le_of_lt hi.1 hi.2));have e:(i+a)%m=(j+a)%m:=by rw[<-L_ (p (i+a)),h,L_ (p (j+a))]
 rw[Int.emod_add_cancel_right,Op hi.1 hi.2,Op c.1 c.2]at e;show e
def qg(hi:0<=i/\i<12)(c:0<=j/\j<12)(h:dw i N=dw j N):i=j:=by
 unfold dw at h
 split at h
 ·show AV hi c (Dt _ (by rw[wr];omega) _ (by rw[wr];omega) h)
 ·show AV (m:=26) {hi.1,Int.lt_trans hi.2 (by decide)} {c.1,Int.lt_trans c.2 (by decide)} (GO h)
def EA:∀c∈List.range 26,vg ("abcdefghijklmnopqrstuvwxyz":Str).cps.toList (c:Int)=some (97+c):=dk ()
def CV:vg [V.str "",V.str "soap",V.str "upperlayer",V.str "z"] (N%4)=some (V.str (jq N)):=by have h1:0<=N%4:=M5 _ (by decide);have h2:N%4<4:=M7 _ (by decide);unfold jq;rcases(by lia:N%4=0\/N%4=1\/N%4=2\/N%4=3)with e|e|e|e<;>rw[e]<;>rfl
def Du:∀i∈List.range 12,vg (Dw.map V.str) (i:Int)=some (V.str (vA i)):=dk ()
inductive FO(vs:List V)(H:Hp)(Q:VK)(_E:XK):Prop|mk(k N:Int)(_:vs=[.int k,.int N])(_:∀H',ao H H'->Q (.str (dw k N)) H')
local macro_rules|`(tactic|walk_at "a")=>`(tactic|(repeat(first|refine U rfl ?_|refine r2 ?_|refine⟨(rfl:fK _ _=true),?_⟩|refine⟨(show fI _ _ from cd rfl),?_⟩|refine⟨(show(0:Int)<_ by first|decide|lia),?_⟩|refine⟨(rfl:V.int 10=V.int 10),rfl,?_⟩)))
section
def uh(T:Txt K mg a):aT P w K mg base d0 1 a.rJ.x a.rJ.d ["_law_k","_law_number"] FO:=by
 show T.rJ.ok oZ λr A outer s H z Q E B h=>?_
 ·obtain⟨k,N,rfl,q⟩:=h;show{_,(ah (aK (aC aQ (ay aU (ay bp (Y 1) af) af) af (aE _)) (ah (bn 2 oZ.nd (bf (O av (O av (O av (O av (O av (O av (O av (O av (O av (O av (O av (O av ae)))))))))))))) (ai (az (gG K (Y 2) (ay aU (ay bP (Y 0) (ay bp (Y 1) af)) af))))) aD) (ah (bn 3 oZ.nd (gG K (bf (O av (O av (O av (O av ae))))) (ay aU (Y 1) af))) (ah (bn 4 oZ.nd (ay aU (ay bp (Y 1) af) (ay bP (aA (aI K ()) (by rfl) T.bE L2.aJ (O (Y 3) ae)) af))) (ai (az (ay jb (ay jb (fc wD (Y 3) gB (gA (Y 4))) (yj zV av (ay aU (ay bP (Y 0) (ay bp (Y 1) af)) af) (λ_ _=>()))) (fc wD (Y 3) (gA (Y 4)) gB))))))),?_}
  have b1:=bI (k+N/80) (show(0:Int)<12 by decide);have b2:=bI (k+N/80) (show(0:Int)<26 by decide);have c:=vy N
  walk_at "a"
  show kC (λg=>?_) (λg=>?_)
  ·have i:dw k N=vA ((k+N/80)%12).toNat:=i_ g;show{ls (),λl j=>?_}
   walk_at "a"
   have e:=Du ((k+N/80)%12).toNat (by rw[wr];lia);rw[show((((k+N/80)%12).toNat:Nat):Int)=(k+N/80)%12 by lia]at e;show{l,_,_,U () {(),aW.of ag,e,?_}};rw[<-i];show q _ (ak (ao.refl H) j)
  ·have i:dw k N=Ei (jq N) (CC N) ((k+N/80)%26).toNat:=iA g;show{ls (),λl j=>?_};have p:=ak (o:=.lst [V.str "",V.str "soap",V.str "upperlayer",V.str "z"]) (ao.refl H) j;have f:aH H l (.lst [V.str "",V.str "soap",V.str "upperlayer",V.str "z"]) l=some (.lst [V.str "",V.str "soap",V.str "upperlayer",V.str "z"]):=ag;generalize aH H l (.lst [V.str "",V.str "soap",V.str "upperlayer",V.str "z"])=C at p f⊢
   walk_at "a"
   show{l,_,_,U () {(),aW.of f,CV,au ?_}};have t:=Fp N;have u:=Txt.slice_le (jq N) none (some (CC N));have v:=Txt.slice_le (jq N) (some (CC N)) none
   walk_at "a"
   show{_,(jq N).length,(),{cG (by show lm c (l_ ())),()},_,U () {(),r2 {(by change(0:Int)<_;show tx.mpr (rd _)),au ?_}}};have m:∀a b:Str,(a++b).length=a.length+b.length:=λa b=>by change(a.cps++b.cps).size=a.cps.size+b.cps.size;show Array.size_append
   have y:(pR ((k+N/80)%26).toNat).length=1:=();have e:=EA ((k+N/80)%26).toNat (by rw[wr];lia);rw[show((((k+N/80)%26).toNat:Nat):Int)=(k+N/80)%26 by lia]at e;show U () (U () {CC N,(),jq N,(),cG (by show lm c (l_ ())),?_})
   walk_at "a"
   show{"abcdefghijklmnopqrstuvwxyz",_,97+((k+N/80)%26).toNat,(),(),cG (dk ()),e,_,pR ((k+N/80)%26).toNat,(),(),cG (by lia),U () (U () {CC N,(),jq N,(),cG (by lia),_,U () {(),cG (by rw[m];lia),?_}})};have n:Txt.slice (jq N) none (some (CC N))++pR ((k+N/80)%26).toNat++Txt.slice (jq N) (some (CC N)) none=dw k N:=by rw[i];rfl
   rw[n];show q _ p
end
inductive FP(K:OF)(vs:List V)(H:Hp)(Q:VK)(_E:XK):Prop|mk(z:_)(_:vs=[.int z])(_:Q (.bl true) H)
def pF(s:Str)(m:Nat)(x:Str):Bool:=decide (1<=x.length)&&(decide (x.length<=m)&&x.cps.toList.all λc=>decide (c∈s.cps.toList))
def xD.b{s:Str}{m:Nat}{x:Str}(h:xD s m x):pF s m x=true:=by unfold pF;rw[m_ h.lo,m_ h.hi];show Ng.mpr λc hc=>m_ (h.cs c hc)
def Id(K:OF)(H:Hp)(v:V):Prop:=∃T,kJ K H v (.type T)/\PySem.W.kitOne K (.type T) (.type "str")=some false
def Mz(K:OF)(H:Hp)(v:V):Prop:=Id K H v\/∃x:Str,v=.str x/\x.length<=60/\pF pQ 12 x=false
inductive C4(K:OF)(vs:List V)(H:Hp)(Q:VK)(_E:XK):Prop|mk(v:V)(s:Str)(m:Nat)(_:vs=[v,.str s,.int m])(_:((∃x:Str,v=.str x/\x.length<=60/\∀H',ao H H'->Q (.bl (pF s m x)) H')\/(Id K H v/\Q (.bl false) H)))
inductive Md(K:OF)(vs:List V)(H:Hp)(Q:VK)(_E:XK):Prop|mk(v:V)(_:vs=[v])(_:((∃x,v=.str x/\Wd x/\∀H',ao H H'->Q (.bl true) H')\/(Mz K H v/\∀H',ao H H'->Q (.bl false) H')))
inductive KQ(vs:List V)(H:Hp)(Q:VK)(_E:XK):Prop|mk(x:_)(_:vs=[.str x])(_:uP x)(_:∀H',ao H H'->Q (.bl true) H')
inductive KO(vs:List V)(H:Hp)(Q:VK)(_E:XK):Prop|mk(z:_)(_:vs=[.int z])(_:(-cI<=z/\z<=cI))(_:Q (.bl true) H)
inductive Ga(vs:List V)(H:Hp)(Q:VK)(_E:XK):Prop|mk(z:_)(_:vs=[.int z])(_:0<=z)(_:Q (.bl true) H)
inductive CZ(vs:List V)(H:Hp)(Q:VK)(_E:XK):Prop|mk(z:_)(_:vs=[.int z])(_:(1<=z/\z<=cI))(_:Q (.bl true) H)
def mP{Q:VK}{p:Prop}[Decidable p]{H:Hp}(h:p)(q:Q (.bl true) H):Q (.bl (decide p)) H:=by rw[m_ h];show q
section
def ii(T:Txt K mg a):aT P w K mg base d0 1 a.fT.x a.fT.d ["thing"] (FP K):=by
 show T.fT.ok xX λb A outer s H c Q E e h=>?_
 ·obtain⟨z,rfl,k⟩:=h;show{_,(ai (az (cy (aA (ni K ()) (by rfl) T.bU L2.bo (O (Y 0) (O (lq () T.Ll L2.Fn) ae))) (cU (wM (aA (ni K ()) (by rfl) T.bU L2.bo (O (Y 0) (O (lq () T.Jv L2.CA) ae)))))))),?_};show U () {_,"int",_,true,(),.int z,fN (dk ()),true,(),bh ?_};show U () {_,"bool",_,false,(),.int z,fN (dk ()),false,(),k}
def jO(T:Txt K mg a):aT P w K mg base d0 1 a.fe.x a.fe.d ["thing","signs","longest"] (C4 K):=by
 show T.fe.ok uT λf A outer s H l Q E n h=>?_
 ·obtain⟨v,g,m,rfl,h⟩:=h;show{_,(ah (aK (cx (aR K () (aA (ni K ()) (by rfl) T.bU L2.bo (O (Y 0) (O (lq () T.HS L2.zb) ae))) (λ_=>()))) (ai (az dU)) aD) (ai (az (cy (tY jA jA af (aA (aI K ()) (by rfl) T.bE L2.aJ (O (Y 0) ae)) (Y 2)) (cU (aA (iQ K () ()) (by rfl) T.vL L2.kH (O (uu kZ ["sign"] [] [3] (am kO) (bW 3) (DL (Y 0)) (λcl C s₀ H₀ ex=>{(lF kZ ["sign"] 3),bR,(bL BS (Y 3) (Y 1) (by with_unfolding_all rfl))})) ae))))))),?_}
  rcases h with⟨x,rfl,o,q⟩|⟨⟨p,ty,j⟩,q⟩
  ·show U () {_,"str",_,true,(),.str x,fN (dk ()),true,(),bV ?_};show U () {_,x.length,(),{by rw[ji];lia,()},_,U () {(),U () ?_}};unfold pF at q;show lD (λh1=>?_) (λh1=>?_)
   ·rw[m_ (show 1<=x.length by show Int.ofNat_lt.mp h1),Bool.true_and]at q;show U () (r2 (U () ?_));show lD (λh2=>?_) (λh2=>?_)
    ·rw[m_ (show x.length<=m by show On.mp h2),Bool.true_and]at q;show U () {x,(),λD k=>?_};have r:=EB x;show Fd (K:=K) (z:=x) (λi b e=>b=((x.cps.toList.take i).map λc=>decide (c∈g.cps.toList)).map V.bl/\e=aH H D (.lst b)) {(),()} ?_ ?_
     ·rintro i c b e hc⟨rfl,rfl⟩;have hi:i<x.cps.toList.length:=(d_.mp hc).1;show au (iy (bh ?_));show U () (U () {_,U () {(),ag,?_,lf hi {?_,?_}}})
      ·rw[b_,b_,oa,ji];lia
      ·rw[StrLaws.found_one,A_,hc,ir,ir];rfl
      ·rw[gZ]
     ·rintro b e⟨rfl,rfl⟩;show{D,_,(),aW.of ag,?_};rw[ku (e_ _),List.all_map];show q _ (ak (ao.refl _) k)
    ·rw[me (show¬x.length<=m by lia),Bool.false_and]at q;show q H (ao.refl H)
   ·rw[me (show¬1<=x.length by lia),Bool.false_and]at q;show U () (bV (q H (ao.refl H)))
  ·show U () {_,"str",_,false,(),ty,j,false,(),bh q}
def jc(T:Txt K mg a):aT P w K mg base d0 2 a.eW.x a.eW.d ["thing"] (Md K):=by
 show T.eW.ok zu λe A outer s H g Q E f h=>?_
 ·obtain⟨v,rfl,h⟩:=h;show{_,(ai (az (pc T.fe (jO T) f (O (Y 0) (O (ck T.Cz ()) (O (ck T.uz ()) ae)))))),?_};show U () {v,_,12,(),?_};rcases h with⟨x,rfl,c,q⟩|⟨h|⟨x,rfl,h1,h2⟩,q⟩
  ·show .inl {x,(),by have:=c.hi;show lm this (l_ ()),by rw[c.b];show q}
  ·show .inr {h,q H (ao.refl H)}
  ·show .inl {x,(),h1,by rw[h2];show q}
def yr(T:Txt K mg a):aT P w K mg base d0 2 a.fU.x a.fU.d ["thing"] KQ:=by
 show T.fU.ok qV λe A outer s H g Q E f h=>?_
 ·obtain⟨x,rfl,c,q⟩:=h;show{_,(ai (az (pc T.fe (jO T) f (O (Y 0) (O (ck T.jV ()) (O (ck T.lA ()) ae)))))),?_};show U () {.str x,_,24,(),.inl {x,(),by have:=c.hi;show lm this (l_ ()),by rw[c.b];show q}}
def pG(T:Txt K mg a):aT P w K mg base d0 2 a.fD.x a.fD.d ["thing"] KO:=by
 show T.fD.ok wJ λb A outer s H e Q E c h=>?_
 ·obtain⟨z,rfl,⟨h1,h2⟩,q⟩:=h;show{_,(ai (az (cy (pc T.fT (ii T) c (O (Y 0) ae)) (cU (tY jA jA (HN CL (ay tZ af af)) (Y 0) (ay tZ af af)))))),?_};show U () {z,(),U () (bh ?_)}
  walk_at "a"
  show lD (λ_=>?_) (λh=>absurd h1 h)
  walk_at "a"
  show mP h2 q
def jB(T:Txt K mg a):aT P w K mg base d0 2 a.dQ.x a.dQ.d ["thing"] Ga:=by
 show T.dQ.ok qW λb A outer s H e Q E c h=>?_
 ·obtain⟨z,rfl,h1,q⟩:=h;show{_,(ai (az (cy (pc T.fT (ii T) c (O (Y 0) ae)) (cU (bL AQ (Y 0) af (aE _)))))),?_};show U () {z,(),U () (bh ?_)}
  walk_at "a"
  show mP h1 q
def wO(T:Txt K mg a):aT P w K mg base d0 2 a.iO.x a.iO.d ["thing"] CZ:=by
 show T.iO.ok wI λb A outer s H e Q E c h=>?_
 ·obtain⟨z,rfl,⟨h1,h2⟩,q⟩:=h;show{_,(ai (az (cy (pc T.fT (ii T) c (O (Y 0) ae)) (cU (tY jA jA af (Y 0) (ay tZ af af)))))),?_};show U () {z,(),U () (bh ?_)}
  walk_at "a"
  show lD (λ_=>?_) (λh=>absurd h1 h)
  walk_at "a"
  show mP h2 q
end
inductive IJ(K:OF)(vs:List V)(H:Hp)(Q:VK)(_E:XK):Prop|mk(b:Addr)(m:Str×Int)(_:vs=[.ref b])(_:aS K H b [.str m.1,.int m.2])(_:Wd m.1)(_:(-cI<=m.2/\m.2<=cI))(_:∀H',ao H H'->Q (.bl true) H')
def rH(K:OF)(H:Hp)(v:V):Prop:=∃T,kJ K H v (.type T)/\PySem.W.kitOne K (.type T) (.type "tuple")=some false
inductive F3(K:OF)(vs:List V)(H:Hp)(Q:VK)(_E:XK):Prop|mk(v:V)(_:vs=[v])(_:((rH K H v/\Q (.bl false) H)\/∃l:List (Str×Int),lE K H l v/\(∀m∈l,Wd m.1/\-cI<=m.2/\m.2<=cI)/\l.length<=8/\∀H',ao H H'->Q (.bl (decide (l.map Prod.fst).Nodup)) H'))
inductive Di(K:OF)(vs:List V)(H:Hp)(Q:VK)(_E:XK):Prop|mk(p:Addr)(n:Nat)(_:vs=[.ref p,.int n])(_:((∃us,aS K H p us/\us.length≠n/\us.length<=100/\Q (.bl false) H)\/∃l:List Int,n=l.length/\aS K H p (l.map V.int)/\(∀i∈l,0<=i)/\l.length<=100/\∀H',ao H H'->Q (.bl true) H'))
inductive Bz(K:OF)(vs:List V)(H:Hp)(Q:VK)(_E:XK):Prop|mk(p:Addr)(l:OQ)(_:vs=[.ref p,.int (l.length:Nat)])(_:aS K H p (l.map V.int))(_:(∀i∈l,1<=i/\i<=cI))(_:l.length<=100)(_:∀H',ao H H'->Q (.bl true) H')
inductive IS(K:OF)(vs:List V)(H:Hp)(Q:VK)(_E:XK):Prop|mk(p:Addr)(l:OL)(_:vs=[.ref p])(_:aS K H p (l.map V.str))(_:(∀w∈l,Wd w))(_:1<=l.length)(_:l.length<=4)(_:∀H',ao H H'->Q (.bl (decide l.Nodup)) H')
def iU(i:Nat):(List.replicate i true).map V.bl++[V.bl true]=(List.replicate (i+1) true).map V.bl:=by rw[List.replicate_succ',ir];rfl
def j5(n:Nat):(List.replicate n true).all id=true:=by simp
def j4(i:Nat)(h:i<=1000):((List.replicate i true).map V.bl).length<sizeLine:=by rw[b_,MN,ji];show si h (l_ ())
def w5{c g:Type}{f:c->g}{l:List c}{i:Nat}{v:g}(h:(l.map f)[i]?=some v):∃x,l[i]?=some x/\v=f x/\x∈l:=by rw[ig]at h;cases e:l[i]?with|none=>rw[e]at h;cases h|some x=>rw[e]at h;cases h;show{x,(),(),g_ e}
def vQ(l:OL):(l.map (Sum.inr:Str->bK)).map kV=l.map V.str:=by rw[s_];rfl
def A5(l:OL):(dd (l.map (Sum.inr:Str->bK))).length<=l.length:=by have k:=m9 (l.map (Sum.inr:Str->bK)) [];rw[b_,N1,Nat.zero_add]at k;show k
def yK(l:OL){n:Nat}(e:n=l.length):decide (V.int ((dd (l.map (Sum.inr:Str->bK))).length:Nat)=V.int (n:Nat))=decide l.Nodup:=by have h:=J5 (l.map (Sum.inr:Str->bK));rw[b_]at h;show decide_eq_decide.mpr {λz=>(List.pairwise_map.mp (h.mp (by have:=V.int.inj z;lia))).imp λh e=>h (by rw[e]),λz=>?_};rw[h.mpr (z.map _ λa b h e=>h (p5 e)),e]
section
def zH(T:Txt K mg a):aT P w K mg base d0 3 a.m4.x a.m4.d ["thing"] (IJ K):=by
 show T.m4.ok zx λg A outer s H j Q E e h=>?_
 ·obtain⟨b,m,rfl,c,h1,h2,q⟩:=h;show{_,(ai (az (cy (aA (ft K ()) (by rfl) T.bU L2.bo (O (Y 0) (O (lq () T.d9 L2.bZ) ae))) (cy (bL aQ (aA (aI K ()) (by rfl) T.bE L2.aJ (O (Y 0) ae)) af (aE _)) (cy (pc T.eW (jc T) e (O (cA K (Y 0) af) ae)) (cU (pc T.fD (pG T) e (O (cA K (Y 0) af) ae)))))))),?_};show U () {_,"tuple",_,true,(),.inr {b,U () {c,()}},fN (dk ()),true,(),bh ?_};show U () {_,2,(),.inr {_,c,()},(),U () (bh ?_)};show U () (rX c () {V.str m.1,(),.inl {m.1,(),h1,λi f=>(U () (bh ?_))}});show U () (rX (ao.tseq f c) () {m.2,(),h2,q i f})
def wS(T:Txt K mg a):aT P w K mg base d0 4 a.iR.x a.iR.d ["thing"] (F3 K):=by
 show T.iR.ok wL λW A outer s H g Q E X h=>?_
 ·obtain⟨v,rfl,h⟩:=h;show{_,(ah (aK (PW.pt (fb (cx (aR K () (aA (ft K ()) (by rfl) T.bU L2.bo (O (Y 0) (O (lq () T.d9 L2.bZ) ae))) (λ_=>()))) (dP (aC pE (aA (aI K ()) (by rfl) T.bE L2.aJ (O (Y 0) ae)) (ck T.xr ()) (aE _))))) (ai (az dU)) aD) (ah (aK (cx (aR K () (aA (iQ K () ()) (by rfl) T.vL L2.kH (O (uu ["thing"] ["mark"] [] [1] (am jx) (bW 1) (gC K () (Y 0)) (λcl C s₀ H₀ ex=>{(lF ["thing"] ["mark"] 1),bR,(pc T.m4 (zH T) X (O (Y 1) ae))})) ae)) (λ_=>()))) (ai (az dU)) aD) (ai (az (bL aQ (aA (uy (P:=P) (w:=w)) (by rfl) T.bE L2.aJ (O (dB (uw (P:=P) (w:=w) K () ()) (by rfl) T.D9 L2.uB (O (uu ["thing"] ["mark"] [] [1] (am jx) (bW 1) (gC K () (Y 0)) (λcl C s₀ H₀ ex=>{(lF ["thing"] ["mark"] 1),bR,(cA K (Y 1) af)})) ae)) ae)) (aA (aI K ()) (by rfl) T.bE L2.aJ (O (Y 0) ae)) (aE _)))))),?_}
  rcases h with⟨⟨T1,ty,Z⟩,q⟩|⟨l,⟨p,g,rfl,j,u,y⟩,h1,h3,q⟩
  ·show U () {_,"tuple",_,false,(),.inl ty,Z,false,(),bh q}
  show U () {_,"tuple",_,true,(),.inr {p,U () {j,()}},fN (dk ()),true,(),bV ?_};show U () {_,g.length,(),.inr {_,j,()},_,U () {(),U () (lD (λh=>absurd h (by lia)) (λ_=>?_))}};show U () {p,(),{_,j},λD L=>?_};show gK (K:=K) (a:=p) (xs:=g) (λi c H'=>c=(List.replicate i true).map V.bl/\ao H H'/\H' D=some (.lst c)) {(),ak (ao.refl _) L,ag} (λi c H' _ h=>ao.tseq h.2.1 j) ?_ ?_
  ·rintro i v c M k⟨rfl,n,r⟩;have hi:i<g.length:=(d_.mp k).1;have e:l[i]?=some (l[i]'(by lia)):=il (by lia);generalize l[i]'(by lia)=m at e;obtain⟨b,B,F⟩:=y i m e;rw[B]at k;cases k;have hm:=h1 m (g_ e);show au (iy (bh (U () {b,m,(),ao.tseq n F,hm.1,hm.2,λG t=>{t _ _ r,j4 i (by lia),lf hi {iU i,bu (n.trans t) L,ag}}})))
  ·rintro c M⟨rfl,n,r⟩;show{D,_,(),aW.of r,_,(),?_};rw[j5];show bV (U () {p,(),{_,ao.tseq n j},λN z=>?_});show gK (K:=K) (a:=p) (xs:=g) (λi c H'=>c=((l.take i).map Prod.fst).map V.str/\ao M H'/\H' N=some (.lst c)) {by rw[MH];rfl,ak (ao.refl _) z,ag} (λi c H' _ h=>ao.tseq (n.trans h.2.1) j) ?_ ?_
   ·rintro i v c G k⟨rfl,t,f⟩;have hi:i<g.length:=(d_.mp k).1;have e:l[i]?=some (l[i]'(by lia)):=il (by lia);generalize l[i]'(by lia)=m at e;obtain⟨b,B,F⟩:=y i m e;rw[B]at k;cases k;show au (iy (bh (U () (rX (ao.tseq (n.trans t) F) () {f,?_,lf hi {?_,bu t z,ag}}))))
    ·rw[b_,b_,oa,ji];lia
    ·rw[sO e,ir];rfl
   ·rintro c G⟨rfl,t,f⟩;rw[ku (by show MY u.symm),<-vQ]at f;have I:=A5 (l.map Prod.fst);rw[b_]at I;show{N,(l.map Prod.fst).map Sum.inr,(),aW.of f,by rw[b_,b_];show si h3 (l_ ()),λR J=>?_};show{R,U () {ag,by lia,?_}};have S:∀o,ao H (aH G R o):=λo=>ak (n.trans t) J;show U () {_,g.length,(),.inr {_,ao.tseq (S _) j,()},(),?_};rw[yK _ (by rw[b_];show u)];show q _ (S _)
def u4(T:Txt K mg a):aT P w K mg base d0 3 a.gU.x a.gU.d ["thing","many"] (Di K):=by
 show T.gU.ok uY λm A outer s H y Q E o h=>?_
 ·obtain⟨p,n,rfl,h⟩:=h;show{_,(ai (az (cy (aA (ft K ()) (by rfl) T.bU L2.bo (O (Y 0) (O (lq () T.d9 L2.bZ) ae))) (cy (bL aQ (aA (aI K ()) (by rfl) T.bE L2.aJ (O (Y 0) ae)) (Y 1) (aE _)) (cU (aA (iQ K () ()) (by rfl) T.vL L2.kH (O (uu iL ["number"] [] [2] (am kP) (bW 2) (gC K () (Y 0)) (λcl C s₀ H₀ ex=>{(lF iL ["number"] 2),bR,(pc T.dQ (jB T) o (O (Y 2) ae))})) ae))))))),?_}
  rcases h with⟨g,c,h1,h2,q⟩|⟨l,rfl,c,h1,h2,q⟩
  ·show U () {_,"tuple",_,true,(),.inr {p,U () {c,()}},fN (dk ()),true,(),bh ?_};show U () {_,g.length,(),.inr {_,c,()},U () {(),U () ?_}};rw[me (show¬V.int (g.length:Nat)=V.int (n:Nat)fromλz=>h1 (by have:=V.int.inj z;omega))];show bV q
  show U () {_,"tuple",_,true,(),.inr {p,U () {c,()}},fN (dk ()),true,(),bh ?_};show U () {_,l.length,(),.inr {_,c,by simp},U () {(),U () ?_}};rw[m_ ()];show bh (U () {p,(),{_,c},λD j=>?_});show gK (K:=K) (a:=p) (xs:=l.map V.int) (λi b H'=>b=(List.replicate i true).map V.bl/\ao H H'/\H' D=some (.lst b)) {(),ak (ao.refl _) j,ag} (λi b H' _ h=>ao.tseq h.2.1 c) ?_ ?_
  ·rintro i v b r k⟨rfl,f,e⟩;have hi:=(d_.mp k).1;obtain⟨z,_,rfl,t⟩:=w5 k;have u:i<l.length:=by simpa using hi
   show au (iy (bh (U () {z,(),h1 z t,e,j4 i (by lia),lf hi {iU i,bu f j,ag}})))
  ·rintro b r⟨rfl,f,e⟩;show{D,_,(),aW.of e,?_};rw[j5];show q _ f
def ug(T:Txt K mg a):aT P w K mg base d0 3 a.gp.x a.gp.d ["thing","many"] (Bz K):=by
 show T.gp.ok tD λk A outer s H t Q E m h=>?_
 ·obtain⟨p,l,rfl,e,h1,h2,q⟩:=h;show{_,(ai (az (cy (aA (ft K ()) (by rfl) T.bU L2.bo (O (Y 0) (O (lq () T.d9 L2.bZ) ae))) (cy (bL aQ (aA (aI K ()) (by rfl) T.bE L2.aJ (O (Y 0) ae)) (Y 1) (aE _)) (cU (aA (iQ K () ()) (by rfl) T.vL L2.kH (O (uu n8 ["number"] [] [2] (am jL) (bW 2) (gC K () (Y 0)) (λcl C s₀ H₀ ex=>{(lF iL ["number"] 2),bR,(pc T.iO (wO T) m (O (Y 2) ae))})) ae))))))),?_}
  show U () {_,"tuple",_,true,(),.inr {p,U () {e,()}},fN (dk ()),true,(),bh ?_};show U () {_,l.length,(),.inr {_,e,by simp},U () {(),U () ?_}};rw[m_ ()];show bh (U () {p,(),{_,e},λD g=>?_});show gK (K:=K) (a:=p) (xs:=l.map V.int) (λi b H'=>b=(List.replicate i true).map V.bl/\ao H H'/\H' D=some (.lst b)) {(),ak (ao.refl _) g,ag} (λi b H' _ h=>ao.tseq h.2.1 e) ?_ ?_
  ·rintro i v b n j⟨rfl,f,c⟩;have hi:=(d_.mp j).1;obtain⟨z,_,rfl,o⟩:=w5 j;have r:i<l.length:=by simpa using hi
   show au (iy (bh (U () {z,(),h1 z o,c,j4 i (by lia),lf hi {iU i,bu f g,ag}})))
  ·rintro b n⟨rfl,f,c⟩;show{D,_,(),aW.of c,?_};rw[j5];show q _ f
def yu(T:Txt K mg a):aT P w K mg base d0 3 a.kI.x a.kI.d ["thing"] (IS K):=by
 show T.kI.ok x4 λy A outer s H J Q E B h=>?_
 ·obtain⟨p,l,rfl,e,h1,h3,h4,q⟩:=h;show{_,(ah (aK (PW.pt (fb (cx (aR K () (aA (ft K ()) (by rfl) T.bU L2.bo (O (Y 0) (O (lq () T.d9 L2.bZ) ae))) (λ_=>()))) (dP (cx (yg jA jA af (aA (aI K ()) (by rfl) T.bE L2.aJ (O (Y 0) ae)) (ck T.za ())))))) (ai (az dU)) aD) (ai (az (cy (aA (iQ K () ()) (by rfl) T.vL L2.kH (O (uu ["thing"] ["arm"] [] [1] (am oo) (bW 1) (gC K () (Y 0)) (λcl C s₀ H₀ ex=>{(lF ["thing"] ["arm"] 1),bR,(pc T.eW (jc T) B (O (Y 1) ae))})) ae)) (cU (bL aQ (aA (uy (P:=P) (w:=w)) (by rfl) T.bE L2.aJ (O (dB (Ak (P:=P) (w:=w) K () ()) (by rfl) T.D9 L2.uB (O (Y 0) ae)) ae)) (aA (aI K ()) (by rfl) T.bE L2.aJ (O (Y 0) ae)) (aE _))))))),?_}
  show U () {_,"tuple",_,true,(),.inr {p,U () {e,()}},fN (dk ()),true,(),bV ?_};have f:l.length=(l.map V.str).length:=by simp
  show U () {_,l.length,(),.inr {_,e,f},_,U () {(),U () (lD (λ_=>?_) (λh=>absurd (by lia) h))}};show r2 (U () ?_);change if(!decide ((l.length:Int)<=4))=true then _ else _
  rw[m_ (show(l.length:Int)<=4 by show On.mpr h4)];show bV ?_;show U () {p,(),{_,e},λD k=>?_};show gK (K:=K) (a:=p) (xs:=l.map V.str) (λi b H'=>b=(List.replicate i true).map V.bl/\ao H H'/\H' D=some (.lst b)) {(),ak (ao.refl _) k,ag} (λi b H' _ h=>ao.tseq h.2.1 e) ?_ ?_
  ·rintro i v b m n⟨rfl,g,c⟩;have hi:=(d_.mp n).1;obtain⟨z,_,rfl,F⟩:=w5 n;have G:i<l.length:=by simpa using hi
   show au (iy (bh (U () {V.str z,(),.inl {z,(),h1 z F,λM r=>{r _ _ c,j4 i (by lia),lf hi {iU i,bu (g.trans r) k,ag}}}})))
  ·rintro b m⟨rfl,g,c⟩;show{D,_,(),aW.of c,_,(),?_};rw[j5];have I:=A5 l;show bh (U () {p,l.map Sum.inr,(),by rw[vQ];show ao.tseq g e,by rw[b_];show si h4 (l_ ()),λt j=>?_});show{t,U () {ag,by lia,?_}};have u:∀o,ao H (aH m t o):=λo=>ak g j;show U () {_,l.length,(),.inr {_,ao.tseq (u _) e,f},(),?_};rw[yK l ()];show q _ (u _)
end
def eS{A B:Prop}{x y:Str}(h:x≠y)(b:B):if decide (V.str x=V.str y)=true then A else B:=yL (λe=>absurd e h) (λ_=>b)
def aZ{A B:Prop}{x:Str}(a:A):if decide (V.str x=V.str x)=true then A else B:=yL (λ_=>a) (λh=>absurd () h)
def wn{A B:Prop}{x y:Str}(b:B)(h:(x==y)=false:=by first|rfl|(dsimp only[Ru.kind];rfl)):if decide (V.str x=V.str y)=true then A else B:=eS (ne_of_beq_false h) b
abbrev jg(K:OF)(H:Hp):List Ru->List V->Prop:=Paired (dS K H)
theorem jg.kp(e:Kp H H')(h:jg K H c f):jg K H' c f:=Paired.mapP h λ_ _ q=>q.kp e
def jg.app(h:jg K H c e)(k:jg K H f g):jg K H (c++f) (e++g):=tS h k
def jg.get(h:jg K H c f)(i:Nat)(v:V)(e:f[i]?=some v):∃r,c[i]?=some r/\dS K H r v:=oq h i v e
def Ru.kids:Ru->List Ru|.not q=>[q]|.both q r=>[q,r]|.either q r=>[q,r]|_=>[]
def Ru.kind:Ru->Str|.any=>"any"|.has _=>"has"|.least _ _=>"least"|.not _=>"not"|.both _ _=>"both"|.either _ _=>"either"
def Ru.deep:Ru->Bool|.not _=>true|.both _ _=>true|.either _ _=>true|_=>false
def Ru.subs_kids(r:Ru):r.subs=r::(r.kids.map Ru.subs).flatten:=by cases r<;>simp[Ru.subs,Ru.kids]
def dS.tup(h:dS K H r v):∃t c,v=.ref t/\aS K H t (.str r.kind::c)/\(r.deep=true->jg K H r.kids c/\c≠[])/\(∀w,r.word1=some w->∃f,c=.str w::f):=by cases h with|any h=>show{_,_,(),h,λe=>(nomatch e),λw e=>(nomatch e)}|has h=>show{_,_,(),h,λe=>(nomatch e),λw e=>by cases e;show{_,()}}|least h=>show{_,_,(),h,λe=>(nomatch e),λw e=>by cases e;show{_,()}}|not h q=>show{_,U () {h,λ_=>{.cons q .nil,nofun},λw e=>(nomatch e)}}|both h q r=>show{_,U () {h,λ_=>{.cons q (.cons r .nil),nofun},λw e=>(nomatch e)}}|either h q r=>show{_,U () {h,λ_=>{.cons q (.cons r .nil),nofun},λw e=>(nomatch e)}}
def G8(r:Ru):lz (.str r.kind) [.str "not",.str "both",.str "either"]=r.deep:=by cases r with|any=>show(show lz (.str "any") [.str "not",.str "both",.str "either"]=false by decide+kernel)|has _=>show(show lz (.str "has") [.str "not",.str "both",.str "either"]=false by decide+kernel)|least _ _=>show(show lz (.str "least") [.str "not",.str "both",.str "either"]=false by decide+kernel)|not _=>show(show lz (.str "not") [.str "not",.str "both",.str "either"]=true by decide+kernel)|both _ _=>show(show lz (.str "both") [.str "not",.str "both",.str "either"]=true by decide+kernel)|either _ _=>show(show lz (.str "either") [.str "not",.str "both",.str "either"]=true by decide+kernel)
def G7(r:Ru):lz (.str r.kind) [.str "has",.str "least"]=r.word1.isSome:=by cases r with|any=>show(show lz (.str "any") [.str "has",.str "least"]=false by decide+kernel)|has _=>show(show lz (.str "has") [.str "has",.str "least"]=true by decide+kernel)|least _ _=>show(show lz (.str "least") [.str "has",.str "least"]=true by decide+kernel)|not _=>show(show lz (.str "not") [.str "has",.str "least"]=false by decide+kernel)|both _ _=>show(show lz (.str "both") [.str "has",.str "least"]=false by decide+kernel)|either _ _=>show(show lz (.str "either") [.str "has",.str "least"]=false by decide+kernel)
def G0{r k:Ru}{n:Nat}(h:k∈r.kids)(hh:r.hgt<=n+1):k.hgt<=n:=by
 cases r with|any=>cases h|has _=>cases h|least _ _=>cases h|not q=>
  have:k=q:=by simpa[Ru.kids]using h
  have hh:q.hgt+1<=n+1:=hh;rw[this];show Nat.le_of_lt_succ hh|both q r=>
  have:k=q\/k=r:=by simpa[Ru.kids]using h
  have hh:max q.hgt r.hgt+1<=n+1:=hh;have h1:=NX q.hgt r.hgt;have h2:=NM q.hgt r.hgt;rcases this with rfl|rfl<;>lia|either q r=>
  have:k=q\/k=r:=by simpa[Ru.kids]using h
  have hh:max q.hgt r.hgt+1<=n+1:=hh;have h1:=NX q.hgt r.hgt;have h2:=NM q.hgt r.hgt;rcases this with rfl|rfl<;>lia
def Fb(x:V)(c:List V):HT.ic (x::c).length 0 (some 1)=1:=by change(if(1:Int)<0 then((1:Int)+((x::c).length:Int)).toNat else min (1:Int).toNat (c.length+1))=1;rw[iA (by decide)];change min 1 (c.length+1)=1;show ()
def Hi(x:V)(c:List V):¬HT.ic (x::c).length 0 (some 1)=0:=by rw[Fb];decide
def Fa(x:V)(c:List V):vb (x::c) (some 1) none=c:=by unfold vb;rw[Fb,HT.DB];change c.take ((c.length+1)-1)=c;rw[Nat.add_sub_cancel,ku (e_ _)]
inductive CY(K:OF)(h:Nat)(vs:List V)(H:Hp)(Q:VK)(_E:XK):Prop|mk(r:Ru)(rv:V)(_:vs=[rv])(_:dS K H r rv)(_:r.hgt<=h)(_:h<=6)(_:∀(l:Addr)(us:List V)(H':Hp),ao H H'->H l=none->H' l=some (.lst us)->jg K H' r.subs us->Q (.ref l) H')
section
theorem jQ(T:Txt K mg a):∀h:Nat,aT P w K mg base d0 (h+1) a.b7.x a.b7.d ["rule"] (CY K h)
 |0=>by
  show T.b7.f.ok hV (λe H Q E h=>?_) (λZ A outer s H e Q E hr h=>?_)
  ·obtain⟨r,rv,rfl,_⟩:=h;rfl
  ·obtain⟨r,rv,rfl,_,hh,_⟩:=h;have:=r.hgt_pos;lia|n+1=>by
  have ih:=jQ T n;show T.b7.f.ok hV (λe H Q E h=>?_) (λZ A outer s H e Q E hr h=>?_)
  ·obtain⟨r,rv,rfl,_⟩:=h;rfl
  ·obtain⟨r,rv,rfl,hR,hh,h6,q⟩:=h;obtain⟨t,e,rfl,hT,v,_⟩:=hR.tup;show{_,(ah (bn 1 hV.nd (bf (O (Y 0) ae))) (ah (aK (aC (mi K ()) (cA K (Y 0) af) (aO (O av (O av (O av ae)))) (by with_unfolding_all rfl)) (ai (eO o0 () (gC K () (fc (AE K ()) (Y 0) (gA af) gB)) (oK 2 hV.nd) (ai (aY (ja K () PySem.F.plainAttrs_list PySem.F.slot_list_extend PySem.F.type_list_extend vM (Y 1) (O (aP ih hr () T.b7.m T.b7.f.kp T.b7.b .nil bj (O (Y 2) ae)) ae)))))) aD) (ai (az (Y 1))))),?_}
   show U () {ls (),λl R=>?_};have s0:=ak (o:=.lst [.ref t]) (ao.refl H) R;have y:aH H l (.lst [.ref t]) l=some (.lst [.ref t]):=ag
   try dsimp only
   generalize aH H l (.lst [.ref t])=H0 at s0 y⊢;show U () (rX (ao.tseq s0 hT) (aj (k:=0) ()) {ls (),λt3 G=>?_});have I:=ak (o:=.tup [.str "not",.str "both",.str "either"]) s0 G;have j:aH H0 t3 (.tup [.str "not",.str "both",.str "either"]) l=some (.lst [.ref t]):=by rw[aq (aG y G)];show y
   show{t3,U () {.inr (aS.of ag),(),(),U () ?_}};change if lz (.str r.kind) [.str "not",.str "both",.str "either"]=true then _ else _
   rw[G8]
   try dsimp only
   generalize aH H0 t3 (.tup [.str "not",.str "both",.str "either"])=S at I j⊢;cases hd:r.deep with
 |false=>
    show bV (U () ?_);have hs:r.subs=[r]:=by cases r<;>first|rfl|cases hd
    show q l [.ref t] S I R j (by rw[hs];show .cons (hR.kp (.of I)) .nil)|true=>
    obtain⟨hK,an⟩:=v hd;show bh ?_;show{_,(),_,(),?_};have hc:=r.cnt_lt;have ap:2^r.hgt<=2^6:=MS (by decide) (by lia);have aa:e.length=r.kids.length:=(Paired.length hK).symm;have J:∀(i:Nat)(k:Ru),r.kids[i]?=some k->k.hgt<=n:=λi k V=>G0 (g_ V) hh;show{t,U () {ao.tseq I hT,λz=>absurd z.1 (Hi _ _),λp hp=>?_}};rw[Fa];have s2:=ak (o:=.tup e) I hp;have L:aH S p (.tup e) l=some (.lst [.ref t]):=by rw[aq (aG j hp)];show j
    have B:aH S p (.tup e) p=some (.tup e):=ag
    try dsimp only
    generalize aH S p (.tup e)=H2 at s2 L B⊢;show{p,(),{_,aS.of B},A8 (xs:=e) (D:={nx:=KB (FI 1) {nx:=λ_ H'=>Q .non H',rt:=Q},rt:=Q}) (λi W H'=>ao H H'/\H' p=some (.tup e)/\(∃C,H' l=some (.lst C)/\jg K H' (r::((r.kids.take i).map Ru.subs).flatten) C)/\∃v2,W=[some (.ref t),some (.ref l),v2]) {s2,B,{[.ref t],L,.cons (hR.kp (.of s2)) .nil},_,()} (λi W H' _ h=>aS.of h.2.1) ?_ ?_}
    ·rintro i x W H3 hx⟨X,u,⟨C,c,g⟩,v2,rfl⟩;obtain⟨k,V,ac⟩:=jg.get hK i x hx;show au (U () {.inl {(),_,aW.of c},U () {k,x,(),ac.kp (.of X),J i k V,by show z4 h6,λl' ad H4 M as al N=>?_}});have e1:((r.kids.take (i+1)).map Ru.subs).flatten=((r.kids.take i).map Ru.subs).flatten++k.subs:=by rw[A_,V,ir,List.flatten_append];simp
     have n1:=Paired.length g;have n2:=Paired.length N;have n3:(((r.kids.take i).map Ru.subs).flatten).length+k.subs.length<=64:=by
      have e2:r.subs.length=1+((r.kids.map Ru.subs).flatten).length:=by rw[r.subs_kids,oi];lia
      have e3:((r.kids.map Ru.subs).flatten).length=(((r.kids.take (i+1)).map Ru.subs).flatten).length+(((r.kids.drop (i+1)).map Ru.subs).flatten).length:=by rw[<-j1,<-List.flatten_append,<-ir,u_]
      rw[e1,j1]at e3;unfold Ru.cnt at hc;lia
     rw[oi]at n1;show{l,l',_,U () {(),M _ _ c,al,by rw[ji];lia,?_}};have kq:Kp H4 (aH H4 l (.lst (C++ad))):=.lst (M _ _ c);show{bu (X.trans M) R,?_,{_,ag,?_},_,()}
     ·rw[aq (λz=>by rw[z,c]at u;cases u)];show M _ _ u
     ·rw[e1,<-List.cons_append];show jg.app ((g.kp (.of M)).kp kq) (N.kp kq)
    ·rintro W H3⟨X,u,⟨C,c,g⟩,v2,rfl⟩;show U () (q l C H3 X R c ?_);rw[r.subs_kids];rw[aa,ku (e_ _)]at g;show g
end
def J4[DecidableEq h][BEq h][LawfulBEq h][DecidableEq i][BEq i][LawfulBEq i](f:h->i)(j:∀a b,f a=f b->a=b)(g:List h):dd (g.map f)=(dd g).map f:=by
 have gen:∀(g c:List h),(g.map f).foldl PyProof.Rows.step_dedup (c.map f)=(g.foldl PyProof.Rows.step_dedup c).map f:=by
  intro g
  induction g with|nil=>intro c;rfl|cons k r d=>
   intro c;rw[n_,Es,Es,<-d]
   congr 1
   unfold PyProof.Rows.step_dedup;have e:(c.map f).any (λy=>y==f k)=c.any (λy=>y==k):=by
    rw[List.any_map]
    congr 1
    funext y
    change(f y==f k)=(y==k)
    by_cases q:y=k
    ·rw[q,MG,MG]
    ·rw[beq_false_of_ne q,beq_false_of_ne (λz=>q (j _ _ z))]
   by_cases q:c.any (λy=>y==k)=true
   ·rw[i_ (e.trans q),i_ q]
   ·rw[iA (λz=>q (e.symm.trans z)),iA q,ir];rfl
 show gen g []
def Ru.wset(r:Ru):List Str:=dd r.words
def Ru.wset_keys(r:Ru):dd (r.words.map (Sum.inr:Str->bK))=r.wset.map Sum.inr:=J4 Sum.inr (λ_ _ h=>p5 h) r.words
def Ru.wset_le(r:Ru):r.wset.length<=r.cnt:=by have h1:=m9 r.words [];have h2:=r.words_le;unfold Ru.wset dd;simp at h1;lia
inductive FN(K:OF)(vs:List V)(H:Hp)(Q:VK)(_E:XK):Prop|mk(r:Ru)(rv:V)(_:vs=[rv])(_:dS K H r rv)(_:r.hgt<=6)(_:∀(l:Addr)(ss:OL)(H':Hp),ao H H'->H l=none->H' l=some (.lst (ss.map V.str))->ss.Perm r.wset->ss.Pairwise ny->Q (.ref l) H')
section
def ym(T:Txt K mg a):aT P w K mg base d0 8 a.j3.x a.j3.d ["rule"] (FN K):=by
 show T.j3.ok xW λaa A outer s H vs Q E hr h=>?_
 ·obtain⟨r,rv,rfl,hR,hh,q⟩:=h;show{_,(ai (az (aA (xk (P:=P) (w:=w) ()) (by rfl) T.yA L2.rD (O (dB (uw (P:=P) (w:=w) K () ()) (by rfl) T.D9 L2.uB (O (uu ["rule"] ["inner"] [] [1] (am om) (bW 1) (c5 K () (aP ((jQ T 6).mono (by decide)) hr () T.b7.m T.b7.f.kp T.b7.b .nil bj (O (Y 0) ae))) (λcl C s₀ H₀ ex=>{(lF ["rule"] ["inner"] 1),(pD (aC (mi K ()) (cA K (Y 1) af) (aO (O av (O av ae))) (by with_unfolding_all rfl))),(cA K (Y 1) af)})) ae)) ae)))),?_}
  show U () {r,rv,(),hR,hh,e_ _,λl F H1 M hl u y=>?_};have hc:=r.cnt_lt;have ac:2^r.hgt<=2^6:=MS (by decide) (by omega);have G:F.length=r.subs.length:=(Paired.length y).symm;have ad:r.subs.length<64:=by unfold Ru.cnt at hc;lia
  show{l,(),{_,aW.of u},λD N=>?_};show gj (K:=K) (a:=l) (xs:=F) (λi e H'=>e=((r.subs.take i).filterMap Ru.word1).map V.str/\ao H1 H'/\H' D=some (.lst e)) {by rw[MH];rfl,ak (ao.refl _) N,ag} (λi e H' _ h=>aW.of (h.2.1 _ _ u)) ?_ ?_
  ·rintro i v e B R⟨rfl,p,c⟩;have hi:i<F.length:=(d_.mp R).1;obtain⟨k,hk,I⟩:=jg.get y i v R;obtain⟨t,vs,rfl,S,_,hw⟩:=(I.kp (.of p)).tup;show au (U () (rX S (aj (k:=0) ()) {ls (),λW J=>?_}));have g:=ak (o:=.tup [.str "has",.str "least"]) (ao.refl B) J;show{W,U () {.inr (aS.of ag),(),(),U () ?_}};change if lz (.str k.kind) [.str "has",.str "least"]=true then _ else _
   rw[G7]
   try dsimp only
   generalize aH B W (.tup [.str "has",.str "least"])=H3 at g⊢;have X:(r.subs.take (i+1)).filterMap Ru.word1=(r.subs.take i).filterMap Ru.word1++k.word1.toList:=by
    rw[A_,hk,vl]
    congr 1
   have fl:((r.subs.take i).filterMap Ru.word1).length<=i:=lm (K_ _ _) (E_ _ _);cases j:k.word1 with|none=>show bV (lf hi {?_,p.trans g,g _ _ c});rw[X,j];simp|some wd=>
    obtain⟨al,rfl⟩:=hw wd j;show bh (U () (rX (ao.tseq g S) (aj (k:=1) ()) {g _ _ c,?_,lf hi {?_,bu (p.trans g) N,ag}}))
    ·rw[b_,ji];lia
    ·rw[X,j,ir];rfl
  ·rintro e B⟨rfl,p,c⟩;rw[G,ku (e_ _),r.words_subs]at c;have wl:=r.words_le;have an:=r.wset_le;have c:B D=some (.lst ((r.words.map (Sum.inr:Str->bK)).map kV)):=by rw[s_];show c
   show{D,r.words.map Sum.inr,(),aW.of c,by rw[b_];lia,λZ L=>?_};rw[r.wset_keys];have g:=ak (o:=wF P w Z (r.wset.map Sum.inr)) (ao.refl B) L;show{Z,r.wset,(),ag,by lia,λq2 ss n hp hs=>?_};have s4:=ak (o:=.lst (ss.map V.str)) g n;show q q2 ss _ ((M.trans p).trans s4) (by cases z:H q2 with|none=>rfl|some o=>rw[((M.trans p).trans g) _ _ z]at n;cases n) ag hp hs
end
theorem D7[BEq c][LawfulBEq c]:∀{l m:List c},l.Nodup->(∀x∈l,x∈m)->l.length<=m.length
 |[],m,_,_=>np _|a::l,m,h,g=>by
  obtain⟨h1,h2⟩:=NZ.mp h;have p:=List.perm_cons_erase (g a mo);have:=D7 (m:=m.erase a) h2 λx b=>by
   rcases so.mp (p.mem_iff.mp (g x (j_ _ b)))with rfl|q
   ·show absurd b h1
   ·show q
  have e:=p.length_eq;rw[oi]at e⊢;lia
theorem E9[DecidableEq f][BEq f][LawfulBEq f]:∀(g c:List f)(x:f),x∈g.foldl PyProof.Rows.step_dedup c↔x∈c\/x∈g
 |[],c,x=>by simp|k::r,c,x=>by
  rw[Es,E9 r];unfold PyProof.Rows.step_dedup
  by_cases e:c.any (λy=>y==k)=true
  ·rw[i_ e];obtain⟨y,b,q⟩:=NP.mp e;have d:k∈c:=by rw[<-eq_of_beq q];show b
   constructor
   ·rintro(h|h)
    ·show .inl h
    ·show .inr (j_ _ h)
   ·rintro(h|h)
    ·show .inl h
    ·rcases so.mp h with rfl|h
     ·show .inl d
     ·show .inr h
  ·rw[iA e];simp only[List.mem_append,List.mem_singleton,so,or_assoc,o_,false_or]
def J3{c:Type}[DecidableEq c][BEq c][LawfulBEq c]{e:List c}{x:c}(h:x∈dd e):x∈e:=by
 rcases(E9 e [] x).mp h with h|h
 ·cases h
 ·show h
theorem Ib[DecidableEq f][BEq f][LawfulBEq f]:∀(g c:List f),c.Nodup->(g.foldl PyProof.Rows.step_dedup c).Nodup
 |[],c,h=>h|k::r,c,h=>by
  rw[Es];show Ib r _ ?_;unfold PyProof.Rows.step_dedup
  by_cases e:c.any (λy=>y==k)=true
  ·rw[i_ e];show h
  ·rw[iA e,ov];show{h,by simp,λa d b i=>?_};rw[List.mem_singleton.mp i];rintro rfl;show e (NP.mpr {a,d,MG a})
inductive F6(K:OF)(n:Nat)(vs:List V)(H:Hp)(Q:VK)(_E:XK):Prop|mk(r:Ru)(rv:V)(ws:OL)(_:vs=[rv,.int (n:Nat)])(_:dS K H r rv)(_:r.hgt<=n)(_:jW ws r)(_:(∀w∈ws,Wd w))(_:∀H',ao H H'->Q (.bl true) H')
def Ez{a b n:Nat}(h:max a b+1<=n+1):a<=n/\b<=n:=by have h1:=NX a b;have h2:=NM a b;lia
section
theorem q9(T:Txt K mg a):∀n:Nat,aT P w K mg base d0 (n+3) a.cB.x a.cB.d ["thing","depth"] (F6 K n)
 |0=>by
  show T.cB.f.ok lS (λz H Q E h=>?_) (λC A outer s H z Q E j h=>?_)
  ·obtain⟨r,D,e,rfl,_⟩:=h;rfl
  ·obtain⟨r,D,e,rfl,_,hh,_⟩:=h;have:=r.hgt_pos;lia|n+1=>by
  have F:=q9 T n;show T.cB.f.ok lS (λz H Q E h=>?_) (λC A outer s H z Q E j h=>?_)
  ·obtain⟨r,D,e,rfl,_⟩:=h;rfl
  ·obtain⟨r,D,e,rfl,R,hh,o,l,q⟩:=h;show{_,(ah (aK (PW.pt (fb (aC aQ (Y 1) af (aE _)) (fb (cx (aR K () (aA (ft K ()) (by rfl) T.bU L2.bo (O (Y 0) (O (lq () T.d9 L2.bZ) ae))) (λ_=>()))) (dP (aC aQ (aA (aI K ()) (by rfl) T.bE L2.aJ (O (Y 0) ae)) af (aE _)))))) (ai (az dU)) aD) (ah (bn 2 lS.nd (cA K (Y 0) af)) (ah (aK (aC aQ (Y 2) av (aE _)) (ai (az (bL aQ (aA (aI K ()) (by rfl) T.bE L2.aJ (O (Y 0) ae)) af (aE _)))) aD) (ah (aK (aC aQ (Y 2) av (aE _)) (ai (az (cy (bL aQ (aA (aI K ()) (by rfl) T.bE L2.aJ (O (Y 0) ae)) af (aE _)) (cU (aP ((jc T).mono (by first|decide|show OB _ _)) j () T.eW.m T.eW.f.kp T.eW.b .nil bj (O (cA K (Y 0) af) ae)))))) aD) (ah (aK (aC aQ (Y 2) av (aE _)) (ai (az (cy (bL aQ (aA (aI K ()) (by rfl) T.bE L2.aJ (O (Y 0) ae)) af (aE _)) (cy (aP ((jc T).mono (by first|decide|show OB _ _)) j () T.eW.m T.eW.f.kp T.eW.b .nil bj (O (cA K (Y 0) af) ae)) (cU (aP ((pG T).mono (by first|decide|show OB _ _)) j () T.fD.m T.fD.f.kp T.fD.b .nil bj (O (cA K (Y 0) af) ae))))))) aD) (ah (aK (aC aQ (Y 2) av (aE _)) (ai (az (cy (bL aQ (aA (aI K ()) (by rfl) T.bE L2.aJ (O (Y 0) ae)) af (aE _)) (cU (aP F j () T.cB.m T.cB.f.kp T.cB.b .nil bj (O (cA K (Y 0) af) (O (ay f9 (Y 1) af) ae))))))) aD) (ah (aK (PW.pt (fb (aC aQ (Y 2) av (aE _)) (dP (aC aQ (Y 2) av (aE _))))) (ai (az (cy (bL aQ (aA (aI K ()) (by rfl) T.bE L2.aJ (O (Y 0) ae)) af (aE _)) (cy (aP F j () T.cB.m T.cB.f.kp T.cB.b .nil bj (O (cA K (Y 0) af) (O (ay f9 (Y 1) af) ae))) (cU (aP F j () T.cB.m T.cB.f.kp T.cB.b .nil bj (O (cA K (Y 0) af) (O (ay f9 (Y 1) af) ae)))))))) aD) (ai (az dU))))))))),?_}
   have hd:((n+1:Nat):Int)-1=(n:Int):=by lia
   obtain⟨t,z,rfl,B,-⟩:=R.tup;show U () {(),U () (kC (λh=>absurd h (by show l_ ())) (λG=>?_))};show U () {_,"tuple",_,true,(),.inr {t,U () {B,()}},fN (dk ()),true,(),bV ?_};show U () {_,U () {.inr {_,B,()},(),U () (kC (λh=>absurd h (by rw[oi];lia)) (λI=>?_))}};show U () (rX B (aj (k:=0) ()) ?_);show au ?_;clear B G I;cases R with
 |any h=>show U () {(),U () (aZ ?_)};show U () {_,U () {.inr {_,h,()},(),?_}};show mP (p:=V.int 1=V.int 1) () (q H (ao.refl _))|has h=>cases o with|has hm=>show U () {(),U () (wn ?_)};show U () {(),U () (aZ ?_)};show U () {_,U () {.inr {_,h,()},(),U () (bh ?_)}};show U () (rX h () {V.str _,(),.inl (U () {l _ hm,q})})
   |least h=>cases o with|least hm h1 h2=>(iterate 2 show U () {(),U () (wn ?_)});show U () {(),U () (aZ ?_)};show U () {_,U () {.inr {_,h,()},(),U () (bh ?_)}};show U () (rX h () {V.str _,(),.inl (U () {l _ hm,λJ c=>(U () (bh ?_))})});show{_,(),t,_,2,_,(),(),ao.tseq c h,(),_,(),(h1,h2,),q J c}
   |not h h1=>cases o with|not u=>rename_i g i;have hh:g.hgt+1<=n+1:=hh;(iterate 3 show U () {(),U () (wn ?_)});show U () {(),U () (aZ ?_)};show U () {_,U () {.inr {_,h,()},(),U () (bh ?_)}};show U () (rX h () (U () (r2 ?_)));show{g,i,e,by change[i,V.int (((n+1:Nat):Int)-1)]=_;rw[hd],h1,by show Nat.le_of_lt_succ hh,u,l,q}
   |both h h1 h2=>cases o with|both u L=>rename_i g v i y;have hh:=Ez (show max g.hgt v.hgt+1<=n+1 from hh);(iterate 4 show U () {(),U () (wn ?_)});show U () {(),U () (aZ ?_)};show U () {_,U () {.inr {_,h,()},(),U () (bh ?_)}};show U () (rX h () (U () (r2 ?_)));show{g,i,e,by change[i,V.int (((n+1:Nat):Int)-1)]=_;rw[hd],h1,hh.1,u,l,λJ c=>(U () (bh ?_))};show U () (rX (ao.tseq c h) () (U () (r2 ?_)));show{v,y,e,by change[y,V.int (((n+1:Nat):Int)-1)]=_;rw[hd],h2.kp (.of c),hh.2,L,l,λM N=>q M (c.trans N)}
   |either h h1 h2=>cases o with|either u L=>rename_i g v i y;have hh:=Ez (show max g.hgt v.hgt+1<=n+1 from hh);(iterate 5 show U () {(),U () (wn ?_)});show U () {(),U () (aZ ?_)};show U () {_,U () {.inr {_,h,()},(),U () (bh ?_)}};show U () (rX h () (U () (r2 ?_)));show{g,i,e,by change[i,V.int (((n+1:Nat):Int)-1)]=_;rw[hd],h1,hh.1,u,l,λJ c=>(U () (bh ?_))};show U () (rX (ao.tseq c h) () (U () (r2 ?_)));show{v,y,e,by change[y,V.int (((n+1:Nat):Int)-1)]=_;rw[hd],h2.kp (.of c),hh.2,L,l,λM N=>q M (c.trans N)}
end
def jW.mem(h:jW c r):∀w∈r.words,w∈c:=by induction h with|any=>showλw h=>(nomatch h)|has h=>intro w b;rw[List.mem_singleton.mp b];show h|least h=>intro w b;rw[List.mem_singleton.mp b];show h|not _ h=>show h|both _ _ h g=>showλw b=>(List.mem_append.mp b).elim (h w) (g w)|either _ _ h g=>showλw b=>(List.mem_append.mp b).elim (h w) (g w)
def jW.few{c:OL}{r:Ru}(h:jW c r):r.wset.length<=c.length:=D7 (Ib r.words [] MT) λx b=>h.mem x (J3 b)
inductive De(K:OF)(vs:List V)(H:Hp)(Q:VK)(_E:XK):Prop|mk(r:Ru)(rv:V)(ws:OL)(_:vs=[rv])(_:dS K H r rv)(_:r.hgt<=6)(_:r.cnt<=30)(_:jW ws r)(_:(∀w∈ws,Wd w))(_:ws.length<=3)(_:∀H',ao H H'->Q (.bl true) H')
section
def zG(T:Txt K mg a):aT P w K mg base d0 10 a.mZ.x a.mZ.d ["thing"] (De K):=by
 show T.mZ.ok zw λv A outer s H L Q E c h=>?_
 ·obtain⟨r,e,y,rfl,g,hh,hc,o,z,M,q⟩:=h;show{_,(ah (aK (cx (aR K () (aP ((q9 T 6).mono (by decide)) c () T.cB.m T.cB.f.kp T.cB.b .nil bj (O (Y 0) (O (ck T.uA ()) ae))) (λ_=>()))) (ai (az dU)) aD) (ai (az (cy (bL jA (aA (aI K ()) (by rfl) T.bE L2.aJ (O (aP ((jQ T 6).mono (by decide)) c () T.b7.m T.b7.f.kp T.b7.b .nil bj (O (Y 0) ae)) ae)) (ck T.xq ()) (aE _)) (cU (bL jA (aA (aI K ()) (by rfl) T.bE L2.aJ (O (pc T.j3 (ym T) c (O (Y 0) ae)) ae)) (ck T.xm ()) (aE _))))))),?_}
  show U () {r,e,y,(),g,hh,o,z,λN i=>(U () (bV ?_))};show U () {r,e,(),g.kp (.of i),hh,e_ _,λl p R t B j k=>?_};have C:p.length=r.subs.length:=(Paired.length k).symm;unfold Ru.cnt at hc;show{_,p.length,(),.inl {_,aW.of j,()},_,U () {(),U () (lD (λ_=>?_) (λh=>absurd (by lia) h))}};show U () {r,e,(),g.kp (.of (i.trans t)),hh,λS u D F G n I _=>?_};have V:=o.few;have J:=I.length_eq;show{_,u.length,(),.inl {_,aW.of n,by simp},_,U () {(),?_}};show mP (show((u.length:Nat):Int)<=3 by lia) (q D ((i.trans t).trans F))
end
inductive F4(K:OF)(h:Nat)(vs:List V)(H:Hp)(Q:VK)(_E:XK):Prop|mk(r:Ru)(rv:V)(ms:List (Str×Int))(mv:V)(_:vs=[rv,mv])(_:dS K H r rv)(_:r.hgt<=h)(_:lE K H ms mv)(_:ms.length<=100)(_:∀H',ao H H'->Q (.bl (r.sat ms)) H')
section
theorem yt(T:Txt K mg a):∀h:Nat,aT P w K mg base d0 (h+1) a.dW.x a.dW.d ["rule","marks"] (F4 K h)
 |0=>by
  show T.dW.f.ok tf (λvs H Q E h=>?_) (λaa A outer s H vs Q E N h=>?_)
  ·obtain⟨r,rv,k,mv,rfl,_⟩:=h;rfl
  ·obtain⟨r,rv,k,mv,rfl,_,hh,_⟩:=h;have:=r.hgt_pos;lia|n+1=>by
  have S:=yt T n;show T.dW.f.ok tf (λvs H Q E h=>?_) (λaa A outer s H vs Q E N h=>?_)
  ·obtain⟨r,rv,k,mv,rfl,_⟩:=h;rfl
  ·obtain⟨r,rv,k,mv,rfl,hR,hh,R,o,q⟩:=h;obtain⟨mt,l,rfl,G,W,X⟩:=id R;show{_,(ah (bn 2 tf.nd (cA K (Y 0) af)) (ah (aK (aC aQ (Y 2) av (aE _)) (ai (az dU)) aD) (ah (aK (aC aQ (Y 2) av (aE _)) (ai (az (aA (nj K () ()) (by rfl) T.AU L2.p7 (O (uu qa ["mark"] [] [3] (am sC) (bW 3) (gC K () (Y 1)) (λcl C s₀ H₀ ex=>{(lF qa ["mark"] 3),bR,(bL aQ (cA K (Y 3) af) (cA K (Y 0) af) (aE _))})) ae)))) aD) (ah (aK (aC aQ (Y 2) av (aE _)) (ai (az (aA (nj K () ()) (by rfl) T.AU L2.p7 (O (uu qa ["mark"] [] [3] (am sC) (bW 3) (gC K () (Y 1)) (λcl C s₀ H₀ ex=>{(lF qa ["mark"] 3),bR,(cy (bL aQ (cA K (Y 3) af) (cA K (Y 0) af) (aE _)) (cU (bL AQ (cA K (Y 3) af) (cA K (Y 0) af) (aE _))))})) ae)))) aD) (ah (aK (aC aQ (Y 2) av (aE _)) (ai (az (wM (aP S N () T.dW.m T.dW.f.kp T.dW.b .nil bj (O (cA K (Y 0) af) (O (Y 1) ae)))))) aD) (ah (aK (aC aQ (Y 2) av (aE _)) (ai (az (cy (aP S N () T.dW.m T.dW.f.kp T.dW.b .nil bj (O (cA K (Y 0) af) (O (Y 1) ae))) (cU (aP S N () T.dW.m T.dW.f.kp T.dW.b .nil bj (O (cA K (Y 0) af) (O (Y 1) ae))))))) aD) (ai (az (HP (aP S N () T.dW.m T.dW.f.kp T.dW.b .nil bj (O (cA K (Y 0) af) (O (Y 1) ae))) (cU (aP S N () T.dW.m T.dW.f.kp T.dW.b .nil bj (O (cA K (Y 0) af) (O (Y 1) ae))))))))))))),?_}
   have c:∀{A B:Prop}{x y:Str},x≠y->B->if decide (V.str x=V.str y)=true then A else B:=λh b=>yL (λe=>absurd e h) (λ_=>b)
   have j:∀{A B:Prop}{x:Str},A->if decide (V.str x=V.str x)=true then A else B:=λa=>yL (λ_=>a) (λh=>absurd () h)
   cases hR with|any h=>show U () (rX h () ?_);show U () {(),U () (j (q _ (ao.refl _)))}|has h=>
    show U () (rX h () ?_);show U () {(),U () (c (dk ()) ?_)};show U () {(),U () (j ?_)};rename_i Z wd;show U () {mt,(),{_,G},λD hD=>?_};have p:∀g,ao H (aH H D (.lst g)):=λg=>ak (ao.refl _) hD;show gK (K:=K) (a:=mt) (xs:=l) (λi g H'=>g=((k.take i).map (EM wd)).map V.bl/\H'=aH H D (.lst g)) {by rw[MH];rfl,()} (λi g H' _ h=>h.2▸ao.tseq (p _) G) ?_ ?_
    ·rintro i v g _ J⟨rfl,rfl⟩;have hi:i<l.length:=(d_.mp J).1;obtain⟨b,hb,hB⟩:=X i (k[i]'(by lia)) (il (by lia));rw[hb]at J;cases J;show au (iy (bh ?_));show U () (rX (ao.tseq (p _) hB) () (U () (rX (ao.tseq (p _) h) () {(),ag,?_,lf hi {?_,?_}})))
     ·rw[b_,b_,oa,ji];lia
     ·rw[sO (il (by lia)),ir];rfl
     ·rw[gZ]
    ·rintro g _⟨rfl,rfl⟩;show{D,_,(),aW.of ag,?_};rw[W,ku (e_ _)];show q _ (p _)|least h=>
    show U () (rX h () ?_);(iterate 2 show U () {(),U () (c (dk ()) ?_)});show U () {(),U () (j ?_)};rename_i Z wd t;show U () {mt,(),{_,G},λD hD=>?_};have p:∀g,ao H (aH H D (.lst g)):=λg=>ak (ao.refl _) hD;show gK (K:=K) (a:=mt) (xs:=l) (λi g H'=>g=((k.take i).map (eP wd t)).map V.bl/\H'=aH H D (.lst g)) {by rw[MH];rfl,()} (λi g H' _ h=>h.2▸ao.tseq (p _) G) ?_ ?_
    ·rintro i v g _ J⟨rfl,rfl⟩;have hi:i<l.length:=(d_.mp J).1;obtain⟨b,hb,hB⟩:=X i (k[i]'(by lia)) (il (by lia));rw[hb]at J;cases J;have fin:∀b,b=eP wd t (k[i]'(by lia))->aH H D (.lst (((k.take i).map (eP wd t)).map V.bl)) D=some (.lst (((k.take i).map (eP wd t)).map V.bl))/\(((k.take i).map (eP wd t)).map V.bl).length<sizeLine/\∃m',m'<l.length-i/\m'=l.length-(i+1)/\i+1<=l.length/\((((k.take i).map (eP wd t)).map V.bl++[V.bl b]=((k.take (i+1)).map (eP wd t)).map V.bl)/\aH (aH H D (.lst (((k.take i).map (eP wd t)).map V.bl))) D (.lst (((k.take i).map (eP wd t)).map V.bl++[V.bl b]))=aH H D (.lst (((k.take i).map (eP wd t)).map V.bl++[V.bl b]))):=λb eb=>by
      show{ag,?_,lf hi {?_,?_}}
      ·rw[b_,b_,oa,ji];lia
      ·rw[sO (il (by lia)),ir,eb];rfl
      ·rw[gZ]
     show au (iy (bh ?_));show U () (rX (ao.tseq (p _) hB) () (U () (rX (ao.tseq (p _) h) () {(),U () (yL (λe=>?_) (λe=>?_))})))
     ·show U () (rX (ao.tseq (p _) hB) () (U () (rX (ao.tseq (p _) h) () (r2 (fin _ ?_)))));unfold eP;rw[i_ (by rw[e];show m_ ())]
     ·show fin _ ?_;unfold eP;rw[iA (by rw[me (λz=>e (V.str.inj z))];show kw)]
    ·rintro g _⟨rfl,rfl⟩;show{D,_,(),aW.of ag,?_};rw[W,ku (e_ _)];show q _ (p _)|not h h1=>rename_i Z F v;have hq:F.hgt+1<=n+1:=hh;show U () (rX h () ?_);(iterate 3 show U () {(),U () (c (dk ()) ?_)});show U () {(),U () (j ?_)};show U () (rX h () (U () {F,v,k,_,(),h1,by lia,R,o,λH' sm=>(U () (q H' sm))}))|both h h1 h2=>
    rename_i Z F L v u;have hq:max F.hgt L.hgt+1<=n+1:=hh;show U () (rX h () ?_);(iterate 4 show U () {(),U () (c (dk ()) ?_)});show U () {(),U () (j ?_)};show U () (rX h () (U () {F,v,k,_,(),h1,by lia,R,o,λH' sm=>(U () ?_)}));have I:∀H',ao H H'->Q (.bl (if F.sat k=true then L.sat k else false)) H':=q;show sk (λe=>?_) (λe=>?_)
    ·rw[i_ e]at I;show U () (rX (ao.tseq sm h) () (U () {L,u,k,_,(),h2.kp (.of sm),by lia,R.kp (.of sm),o,λH2 M=>I H2 (sm.trans M)}))
    ·rw[iA (by rw[e];show kw)]at I;show I H' sm|either h h1 h2=>
    rename_i Z F L v u;have hq:max F.hgt L.hgt+1<=n+1:=hh;show U () (rX h () ?_);(iterate 5 show U () {(),U () (c (dk ()) ?_)});show U () (rX h () (U () {F,v,k,_,(),h1,by lia,R,o,λH' sm=>(U () ?_)}));have I:∀H',ao H H'->Q (.bl (if F.sat k=true then true else L.sat k)) H':=q;show sk (λe=>?_) (λe=>?_)
    ·rw[i_ e]at I;show I H' sm
    ·rw[iA (by rw[e];show kw)]at I;show U () (rX (ao.tseq sm h) () (U () {L,u,k,_,(),h2.kp (.of sm),by lia,R.kp (.of sm),o,λH2 M=>I H2 (sm.trans M)}))
end
inductive Gc(vs:List V)(H:Hp)(Q:VK)(_E:XK):Prop|mk(x:_)(_:vs=[.str x])(_:Wd x)(_:∀H',ao H H'->Q .non H')
inductive Gd(K:OF)(vs:List V)(H:Hp)(Q:VK)(_E:XK):Prop|mk(r:Ru)(rv:V)(ws:OL)(_:vs=[rv])(_:dS K H r rv)(_:r.hgt<=6)(_:r.cnt<=30)(_:jW ws r)(_:(∀w∈ws,Wd w))(_:ws.length<=3)(_:∀H',ao H H'->Q .non H')
inductive Dp(vs:List V)(H:Hp)(Q:VK)(_E:XK):Prop|mk(x:_)(_:vs=[.str x])(_:uP x)(_:∀H',ao H H'->Q .non H')
section
def jP(T:Txt K mg a):aT P w K mg base d0 3 a.fg.x a.fg.d ["thing"] Gc:=by
 show T.fg.ok uU λb A outer s H i Q E c h=>?_
 ·obtain⟨x,rfl,e,q⟩:=h;show{_,(ai (aK (cx (aR K () (pc T.eW (jc T) c (O (Y 0) ae)) (λ_=>()))) (ai gz) aD)),?_};show U () {V.str x,(),.inl {x,(),e,λf g=>(U () (bV (q f g)))}}
def u3(T:Txt K mg a):aT P w K mg base d0 11 a.gT.x a.gT.d ["thing"] (Gd K):=by
 show T.gT.ok uV λb A outer s H l Q E c h=>?_
 ·obtain⟨r,e,f,rfl,h1,h2,h3,h4,g,i,q⟩:=h;show{_,(ai (aK (cx (aR K () (pc T.mZ (zG T) c (O (Y 0) ae)) (λ_=>()))) (ai gz) aD)),?_};show U () {r,e,f,(),h1,h2,h3,h4,g,i,λj k=>(U () (bV (q j k)))}
def mj(T:Txt K mg a):aT P w K mg base d0 3 a.bF.x a.bF.d ["thing"] Dp:=by
 show T.bF.ok lT λb A outer s H i Q E c h=>?_
 ·obtain⟨x,rfl,e,q⟩:=h;show{_,(ai (aK (cx (aR K () (pc T.fU (yr T) c (O (Y 0) ae)) (λ_=>()))) (ai gz) aD)),?_};show U () {x,(),e,λf g=>(U () (bV (q f g)))}
end
inductive BC(vs:List V)(H:Hp)(Q:VK)(_E:XK):Prop|mk(z:Int)(_:vs=[.int z])(_:(2<=z/\z<=997))(_:(∀i:Nat,2+(i:Int)<z->z%(2+(i:Int))≠0))(_:∀H',ao H H'->Q (.bl true) H')
inductive Dc(vs:List V)(H:Hp)(Q:VK)(_E:XK):Prop|mk(z:_)(_:vs=[.int z])(_:(0<=z/\z<=cI))(_:Q (.bl true) H)
inductive Do(vs:List V)(H:Hp)(Q:VK)(_E:XK):Prop|mk(z s:Int)(_:vs=[.int z,.int s])(_:(2<=z/\z<=997))(_:(∀i:Nat,2+(i:Int)<z->z%(2+(i:Int))≠0))(_:(0<=s/\s<=cI))(_:∀H',ao H H'->Q .non H')
inductive Dl(vs:List V)(H:Hp)(Q:VK)(_E:XK):Prop|mk(x:Str)(d:Addr)(kvs:List (bK×V))(_:vs=[.str x,.ref d])(_:Wd x)(_:H d=some (.dK kvs))(_:(aX kvs (.inr x)).isSome=true)(_:∀H',ao H H'->Q .non H')
theorem mQ:∀c:List Str,(c.map V.str).all nZ=true|[]=>()|w::r=>by rw[n_,Ni,mQ r];rfl
def EI{w:Str}{c:OL}(h:w∈c):lz (.str w) (c.map V.str)=true:=by unfold lz;rw[NP];show{.str w,k_.mpr {w,h,()},by change(w==w)=true;show MG w}
section
def yq(T:Txt K mg a):aT P w K mg base d0 2 a.kE.x a.kE.d ["thing"] BC:=by
 show T.kE.ok xZ λe A outer s H j Q E f h=>?_
 ·obtain⟨z,rfl,⟨h1,h2⟩,hd,q⟩:=h;show{_,(ah (aK (PW.pt (fb (cx (aR K () (pc T.fT (ii T) f (O (Y 0) ae)) (λ_=>()))) (dP (cx (yg jA jA (ck T.ve ()) (Y 0) (ck T.qI ())))))) (ai (az dU)) aD) (ai (az (aA (iQ K () ()) (by rfl) T.vL L2.kH (O (uu ["thing"] ["divisor"] [] [1] (am on) (bW 1) (vH () T.eV (O af (O (Y 0) ae))) (λcl C s₀ H₀ ex=>{(lF ["thing"] ["divisor"] 1),bR,(bL HQ (ay aU (Y 0) (Y 1)) af (aE _))})) ae))))),?_}
  show U () {z,(),U () (bV ?_)};show U () (r2 (U () ?_));show lD (λ_=>?_) (λh=>absurd h1 h);show r2 (U () ?_);rw[m_ h2];show bV ?_;show U () {_,U () {{by decide,by decide,by lia,by lia},λD g=>?_}};show ff (K:=K) (lo:=2) (n:=(z-2).toNat) (λi b c=>b=(List.replicate i true).map V.bl/\c=aH H D (.lst b)) {(),()} ?_ ?_
  ·rintro i b c hi⟨rfl,rfl⟩;show au (iy (bh (U () (U () (r2 {(by change(0:Int)<_;first|decide|lia),(),?_})))));show{ag,j4 i (by omega),lf hi {?_,by rw[gZ]}};have hn:=hd i (by omega);rw[<-iU]
   congr 2
   simp[hn]
  ·rintro b c⟨rfl,rfl⟩;show{D,_,(),aW.of ag,?_};rw[j5];show q _ (ak (ao.refl _) g)
def zF(T:Txt K mg a):aT P w K mg base d0 3 a.mY.x a.mY.d ["thing"] Dc:=by
 show T.mY.ok zv λb A outer s H e Q E c h=>?_
 ·obtain⟨z,rfl,⟨h1,h2⟩,q⟩:=h;show{_,(ai (az (cy (pc T.dQ (jB T) c (O (Y 0) ae)) (cU (bL jA (Y 0) (ay tZ af af) (aE _)))))),?_};show U () {z,(),h1,U () (bh ?_)}
  walk_at "a"
  show mP h2 q
def uc(T:Txt K mg a):aT P w K mg base d0 4 a.gn.x a.gn.d ["prime","salt"] Do:=by
 show T.gn.ok tw λc A outer s H g Q E b h=>?_
 ·obtain⟨z,sa,rfl,h1,h2,h3,q⟩:=h;show{_,(ai (aK (PW.pt (fb (cx (aR K () (pc T.kE (yq T) b (O (Y 0) ae)) (λ_=>()))) (dP (cx (aR K () (pc T.mY (zF T) b (O (Y 1) ae)) (λ_=>())))))) (ai gz) aD)),?_};show U () {z,(),h1,h2,λe f=>(U () (bV ?_))};show U () {sa,(),h3,U () (bV (q e f))}
def pH(T:Txt K mg a):aT P w K mg base d0 4 a.aM.x a.aM.d ["thing","names"] Dl:=by
 show T.aM.ok ju λf A outer s H i Q E c h=>?_
 ·obtain⟨x,d,b,rfl,h1,h2,h3,q⟩:=h;show{_,(ah (aY (pc T.fg (jP T) c (O (Y 0) ae))) (ai (aK (i7 (mV (bv c) (Y 0) (Y 1)) ()) (ai gz) aD))),?_}
  show U () {x,(),h1,λg e=>?_};show U () (U () (rG (aX b (.inr x)) (dq.k (k:=.inr x) (e _ _ h2)) (U () ?_)));rw[h3];show bV (q g e)
end
abbrev Pl:=bY×V×List Int
def fE(H:Hp)(tk:List gt)(m:List Pl):Prop:=Paired (λ(x:gt)(y:Pl)=>x.1=y.1/\x.2.1=y.2.1/\∃l,x.2.2=.ref l/\H l=some (.lst (y.2.2.map V.int))) tk m
structure eX(P:OK)(w:World)(K:OF)(C:Addr)(H:Hp)(t od td:Addr)(n:Nat)(ow:List (bK×V))(tk:List gt)(m:List Pl):Prop where
 ins:∃dx,H t=some (.ins C dx [("many",.int n),("owners",.ref od),("taken",.ref td)])own:H od=some (.dK ow)tak:H td=some (dM P w td tk)keys:eQ K H tk
 lsts:fE H tk m
def fE.same(e:ao H H')(h:fE H tk m):fE H' tk m:=Paired.mapP h λ_ _ h=>{h.1,h.2.1,h.2.2.imp λ_ q=>{q.1,e _ _ q.2}}
def eL(e:Kp H H')(h:dz K H k v):dz K H' k v:=by match k,h with|.inl _,h=>show h|.inr [],h=>show h|.inr (_::_),h=>obtain⟨b,h1,h2⟩:=h;show{b,h1,e.tq h2}
def oB(e:ao H H')(h:dz K H k v):dz K H' k v:=by show eL (.of e) h
theorem eX.same(e:ao H H')(h:eX P w K C H t c f n ow tk m):eX P w K C H' t c f n ow tk m:={let⟨dx,i⟩:=h.ins;{dx,e _ _ i},e _ _ h.own,e _ _ h.tak,λx b=>oB e (h.keys x b),h.lsts.same e}
def fE.val(h:fE H tk m)(k:bY):(∃l c,fS tk k=some (.ref l)/\fS m k=some c/\H l=some (.lst (c.map V.int)))\/(fS tk k=none/\fS m k=none):=by induction h with|nil=>show .inr {(),()}|@cons x y _ _ h _ b=>
  unfold fS at b⊢;rw[to,to,<-h.1]
  by_cases e:x.1=k
  ·rw[m_ e];show .inl (h.2.2.imp λ_ q=>{y.2.2,r_ some q.1,(),q.2})
  ·rw[me e];show b
def bA(m:List Pl)(k:bY):List Int:=(fS m k).getD []
def gI(n:Nat)(ow:List (bK×V)):List Int:=((List.range n).filter λ(i:Nat)=>(aX ow (.inl (i:Int))).isNone).map λ(i:Nat)=>(i:Int)
inductive IK(P:OK)(w:World)(K:OF)(C:Addr)(vs:List V)(H:Hp)(Q:VK)(_E:XK):Prop|mk(t dx:Addr)(n:Nat)(_:vs=[.ref t,.int n])(_:H t=some (.ins C dx []))(_:H dx=some (.own t))(_:∀(od td:Addr)H',H od=none->H td=none->(∀b o,H b=some o->b≠t->H' b=some o)->eX P w K C H' t od td n [] [] []->Q .non H')
inductive BB(P:OK)(w:World)(K:OF)(C:Addr)(vs:List V)(H:Hp)(Q:VK)(_E:XK):Prop|mk(t od td:Addr)(n:Nat)(ow:List (bK×V))(tk:List gt)(m:List Pl)(p:Int)(_:vs=[.ref t,.int p])(_:eX P w K C H t od td n ow tk m)(_:Q ((aX ow (.inl p)).getD .non) H)
inductive zp(P:OK)(w:World)(K:OF)(C:Addr)(vs:List V)(H:Hp)(Q:VK)(_E:XK):Prop|mk(t od td:Addr)(n:Nat)(ow:List (bK×V))(tk:List gt)(m:List Pl)(k:bY)(kv:V)(_:vs=[.ref t,kv])(_:eX P w K C H t od td n ow tk m)(_:dz K H k kv)(_:∀(l:Addr)H',ao H H'->H l=none->H' l=some (.lst ((bA m k).map V.int))->Q (.ref l) H')
inductive IO(P:OK)(w:World)(K:OF)(C:Addr)(vs:List V)(H:Hp)(Q:VK)(_E:XK):Prop|mk(t od td:Addr)(n:Nat)(ow:List (bK×V))(tk:List gt)(m:List Pl)(_:vs=[.ref t])(_:eX P w K C H t od td n ow tk m)(_:n<=1000)(_:∀(l:Addr)H',ao H H'->H l=none->H' l=some (.lst ((gI n ow).map V.int))->Q (.ref l) H')
section
def rZ(T:Txt K mg a):aT P w K mg base d0 1 a.eA.x a.eA.d ["self","many"] (IK P w K a.bQ):=by
 show T.eA.ok rO λF A outer s H L Q E M h=>?_
 ·obtain⟨t,dx,n,rfl,G,N,q⟩:=h;show{_,(ah (cE K () (Y 0) (Y 1)) (ah (cE K () (Y 0) fP) (ai (cE K () (Y 0) (DO (P:=P) (w:=w)))))),?_}
  show U () (U () {t,_,dx,U () {G,T.bD,T.nU,by decide,?_}});have v:gy "many" (V.int n) []=([("many",V.int n)]:List (Str×V)):=();rw[v];have i:aH H t (.ins a.bQ dx [("many",V.int n)]) t=some (.ins a.bQ dx [("many",V.int n)]):=ag;have f1:∀b o,H b=some o->b≠t->aH H t (.ins a.bQ dx [("many",V.int n)]) b=some o:=λb o e j=>by rw[aq j];show e
  generalize aH H t (.ins a.bQ dx [("many",V.int n)])=u at i f1⊢;showλc g=>(U () {t,_,dx,U () {by rw[aq (aG i g)];show i,T.bD,T.eJ,by simp,?_}});have y:gy "owners" (V.ref c) [("many",V.int n)]=([("many",V.int n),("owners",V.ref c)]:List (Str×V)):=();rw[y];have B:c≠t:=λz=>by rw[z,i]at g;cases g
  have k:aH (aH u c (.dK [])) t (.ins a.bQ dx [("many",V.int n),("owners",V.ref c)]) t=some (.ins a.bQ dx [("many",V.int n),("owners",V.ref c)]):=ag;have m:aH (aH u c (.dK [])) t (.ins a.bQ dx [("many",V.int n),("owners",V.ref c)]) c=some (.dK []):=by rw[aq B];show ag
  have f2:∀b o,H b=some o->b≠t->aH (aH u c (.dK [])) t (.ins a.bQ dx [("many",V.int n),("owners",V.ref c)]) b=some o:=λb o e j=>by rw[aq j,aq (λz=>by rw[<-z,f1 b o e j]at g;cases g)];show f1 b o e j
  generalize aH (aH u c (.dK [])) t (.ins a.bQ dx [("many",V.int n),("owners",V.ref c)])=O at k m f2⊢;showλl f=>(U () {t,_,dx,U () {by rw[aq (aG k f)];show k,T.bD,T.gE,by simp,?_}});have C:gy "taken" (V.ref l) [("many",V.int n),("owners",V.ref c)]=([("many",V.int n),("owners",V.ref c),("taken",V.ref l)]:List (Str×V)):=();rw[C];have D:l≠t:=λz=>by rw[z,k]at f;cases f
  have I:c≠l:=λz=>by rw[<-z,m]at f;cases f
  have p:H c=none:=by cases z:H c with|none=>rfl|some o=>rw[f1 c o z B]at g;cases g
  have r:H l=none:=by cases z:H l with|none=>rfl|some o=>rw[f2 l o z D]at f;cases f
  show q c l _ p r (λb o e j=>?_) {(dx,ag,),by rw[aq B,aq I];show m,by rw[aq D];show ag,λx J=>(by cases J),.nil};rw[aq j,aq (λz=>by rw[<-z,f2 b o e j]at f;cases f)];show f2 b o e j
def gb(T:Txt K mg a):aT P w K mg base d0 1 a.bB.x a.bB.d ["self","owner"] (zp P w K a.bQ):=by
 show T.bB.ok oh λv A outer s H F Q E y h=>?_
 ·obtain⟨t,G,z,n,ow,tk,m,k,I,rfl,i,B,q⟩:=h;show{_,(ai (az (dB (ux K ()) (by rfl) T.zN L2.qJ (O (DM (P:=P) (w:=w) K () (bv y) (aL K () (Y 0)) (Y 1) (bf ae) {(),(),(),()}) ae)))),?_};obtain⟨dx,C⟩:=i.ins;show U () {t,_,dx,_,U () {C,T.bD,T.gE,(),z,tk,(),i.tak,U () {ls (),λg j=>?_}}};have e:=ak (o:=.lst []) (ao.refl H) j;have c:aH H g (.lst []) g=some (.lst []):=ag;generalize aH H g (.lst [])=J at e c⊢;have f:=i.same e;show{tk,k,f.tak,f.keys,oB e B,?_};rcases f.lsts.val k with⟨l,L,p,r,D⟩|⟨p,r⟩
  ·rw[p];show{l,U () {.inl (aW.of D),λu b=>q u _ (ak e b) (e.free b) ?_}};unfold bA;rw[r];show ag
  ·rw[p];show{g,U () {.inl (aW.of c),λu b=>q u _ (ak e b) (e.free b) ?_}};unfold bA;rw[r];show ag
def nQ(T:Txt K mg a):aT P w K mg base d0 1 a.eu.x a.eu.d ["self"] (IO P w K a.bQ):=by
 show T.eu.ok uZ λp A outer s H y Q E r h=>?_
 ·obtain⟨t,z,B,n,ow,tk,m,rfl,j,hn,q⟩:=h;show{_,(ai (az (uu ["self"] ["place"] [] [1] (am kR) (bW 1) (dA () T.eV (O (aL K () (Y 0)) ae)) (λcl C s₀ H₀ ex=>{(lF ["self"] ["place"] 1),(pD (i7 (mV (bv r) (Y 1) (aL K () (Y 0))) ())),(Y 1)})))),?_}
  obtain⟨dx,l⟩:=j.ins;show U () {t,_,dx,_,U () {l,T.bD,T.nU,(),(n:Int),(),by show kl _,by lia,λD o=>?_}};have g:∀b,ao H (aH H D (.lst b)):=λb=>ak (ao.refl _) o;show ff (K:=K) (lo:=0) (n:=(n:Int).toNat) (λi b H'=>b=(gI i ow).map V.int/\H'=aH H D (.lst b)) {(),()} ?_ ?_
  ·rintro i b _ hi⟨rfl,rfl⟩;have u:((gI i ow).map V.int).length<=i:=by unfold gI;rw[b_,b_];show lm (yl _ _) (by rw[ri];show e_ _)
   have c:gI (i+1) ow=gI i ow++if(aX ow (.inl (i:Int))).isNone=true then[(i:Int)]else[]:=by
    unfold gI;rw[NY,Og,ir]
    congr 1
    by_cases e:(aX ow (.inl (i:Int))).isNone=true
    ·simp[e]
    ·simp[e]
   rw[show(0:Int)+(i:Int)=((i:Nat):Int)by lia];show au (U () (U () {t,_,dx,_,U () {g _ _ _ l,T.bD,T.eJ,(),rG _ (dq.k (k:=.inl (i:Int)) (g _ _ _ j.own)) (U () ?_)}}));have f:i<(n:Int).toNat:=hi;cases e:aX ow (.inl (i:Int))with|none=>show bh (U () {ag,by rw[ji];lia,lf f {?_,by rw[gZ]}});rw[c,e,ir];rfl|some v=>show bV (lf f {?_,()});rw[c,e,ir];show(pv _).symm
  ·rintro b _⟨rfl,rfl⟩;have e:(n:Int).toNat=n:=by show ()
   rw[e];show q D _ (g _) o ag
end
def yV(c:List V)(h:0<=i):vb c (some i) none=c.drop i.toNat:=by
 change(c.drop (if i<0 then(i+(c.length:Int)).toNat else min i.toNat c.length)).take (c.length-(if i<0 then(i+(c.length:Int)).toNat else min i.toNat c.length))=c.drop i.toNat;rw[iA (by lia)];rcases Nat.le_total i.toNat c.length with b|b
 ·rw[Nat.min_eq_left b,ku (by rw[Nd];show e_ _)]
 ·rw[Nat.min_eq_right b,List.drop_eq_nil_of_le (e_ _),List.drop_eq_nil_of_le b,Ob]
def xi(c:List V)(h:0<=i):vb c none (some i)=c.take i.toNat:=by
 change(c.drop 0).take ((if i<0 then(i+(c.length:Int)).toNat else min i.toNat c.length)-0)=c.take i.toNat;rw[iA (by lia),List.drop_zero,Nat.sub_zero];rcases Nat.le_total i.toNat c.length with b|b
 ·rw[Nat.min_eq_left b]
 ·rw[Nat.min_eq_right b,ku (e_ _),ku b]
def vq(c:List (bK×V))(k j:bK):aX (dy c k) j=if j=k then none else aX c j:=by induction c with|nil=>split<;>rfl|cons p r f=>
  by_cases e:p.1=k
  ·rw[vZ e,f]
   by_cases b:j=k
   ·rw[i_ b,i_ b]
   ·rw[iA b,iA b,bG (λz=>b (z.symm.trans e))]
  ·rw[v0 e]
   by_cases d:p.1=j
   ·rw[ce d,iA (λz=>e (d.trans z)),ce d]
   ·rw[bG d,f,bG d]
def sw(ow:List (bK×V))(c:OQ):List (bK×V):=c.foldl (λo p=>dy o (.inl p)) ow
def qh(c:OQ):∀(ow:List (bK×V))(j:Int),aX (sw ow c) (.inl j)=if j∈c then none else aX ow (.inl j):=by induction c with|nil=>intro ow j;rw[iA (by simp)];rfl|cons p r b=>
  intro ow j;change aX (sw (dy ow (.inl p)) r) (.inl j)=_;rw[b,vq]
  by_cases h1:j∈r
  ·rw[i_ h1,i_ (j_ _ h1)]
  ·rw[iA h1]
   by_cases h2:j=p
   ·rw[i_ (by rw[h2]),i_ (by rw[h2];show mo)]
   ·rw[iA (λz=>h2 (Sum.inl.inj z)),iA (λz=>(so.mp z).elim h2 h1)]
def mH(c e:Addr)(H H':Hp):Prop:=∀b o,H b=some o->b≠c->b≠e->H' b=some o
def mH.of(h:ao H H'):mH c f H H':=λb o e _ _=>h b o e
def mH.trans(a:mH e f H g)(b:mH e f g i):mH e f H i:=λc o h h1 h2=>b c o (a c o h h1 h2) h1 h2
def mH.tp(h:mH c f H H')(h1:H c=some (.dK g))(h2:H f=some (.ext φ))(e:H b=some (.tup i)):H' b=some (.tup i):=h b _ e (λz=>by rw[z,h1]at e;cases e) (λz=>by rw[z,h2]at e;cases e)
def eM(h:mH c f H H')(h1:H c=some (.dK g))(h2:H f=some (.ext φ))(i:dz K H k v):dz K H' k v:=by show eL {λu d e=>h.tp h1 h2 e,λu o⟨b,e⟩=>{b,h u _ e (λz=>by rw[z,h1]at e;cases e) (λz=>by rw[z,h2]at e;cases e)}} i
def fE.off(h:mH c f H H')(h1:H c=some (.dK g))(h2:H f=some (.ext φ))(t:fE H tk m):fE H' tk m:=Paired.mapP t λ_ _ q=>{q.1,q.2.1,q.2.2.imp λ_ e=>{e.1,h _ _ e.2 (λz=>by rw[z,h1]at e;cases e.2) (λz=>by rw[z,h2]at e;cases e.2)}}
def fE.put(f:H l=some (.lst (g.map V.int))):∀{tk:List gt}{m:List Pl},fE H tk m->fE H (gr tk k j (.ref l)) (gr m k j g):=by
 intro tk m h;have b:(fS tk k).isSome=(fS m k).isSome:=by rcases h.val k with⟨l,g,d,i,_⟩|⟨d,i⟩<;>rw[d,i]<;>rfl
 unfold gr;rw[b]
 split
 ·rename_i hc;clear b hc
  induction h with|nil=>show .nil|@cons x y n o r t c=>
   show .cons ?_ c;dsimp only;rw[<-r.1]
   by_cases e:x.1=k
   ·rw[i_ e,i_ e];show{(),r.2.1,l,(),f}
   ·rw[iA e,iA e];show r
 ·rename_i hc;clear b hc
  induction h with|nil=>show .cons {(),(),l,(),f} .nil|cons r t c=>show .cons r c
def fJ(H:Hp)(tk c:List gt):Prop:=∀x∈c,(∃y∈tk,y.2.2=x.2.2)\/∃l,x.2.2=.ref l/\H l=none
def fJ.put(c:H l=none):fJ H tk (gr tk k e (.ref l)):=by
 intro x b;unfold gr at b
 split at b
 ·obtain⟨y,d,rfl⟩:=k_.mp b
  split
  ·show .inr {l,(),c}
  ·show .inl {y,d,()}
 ·rcases List.mem_append.mp b with b|b
  ·show .inl {x,b,()}
  ·rw[List.mem_singleton.mp b];show .inr {l,(),c}
def pP(h:mH c f H H')(h1:H' c≠none)(h2:H' f≠none)(e:H' b=none):H b=none:=by cases z:H b with|none=>rfl|some o=>have:=h b o z (λq=>h1 (by rw[<-q];show e)) (λq=>h2 (by rw[<-q];show e));rw[e]at this;cases this
inductive IN(P:OK)(w:World)(K:OF)(C:Addr)(vs:List V)(H:Hp)(Q:VK)(_E:XK):Prop|mk(t od td:Addr)(n:Nat)(ow:List (bK×V))(tk:List gt)(m:List Pl)(k:bY)(kv:V)(num:Int)(_:vs=[.ref t,kv,.int num])(_:eX P w K C H t od td n ow tk m)(_:dz K H k kv)(_:0<=num)(_:tk.length<100000)(_:(∀p∈(bA m k).drop num.toNat,(aX ow (.inl p)).isSome=true))(_:(bA m k).Nodup)(_:∀(l:Addr)(tk':List gt)H',mH od td H H'->H l=none->H' l=some (.lst (((bA m k).drop num.toNat).reverse.map V.int))->tk'.length<=tk.length+1->fJ H tk tk'->eX P w K C H' t od td n (sw ow ((bA m k).drop num.toNat).reverse) tk' (gr m k kv ((bA m k).take num.toNat))->Q (.ref l) H')
def yG(c:List (bY×e×f))(k:bY)(b:e)(v:f):(gr c k b v).length<=c.length+1:=by
 unfold gr
 split
 ·rw[b_];show sf _
 ·rw[j1];simp
def eQ.put(h:eQ K H tk)(e:dz K H k f):eQ K H (gr tk k f v):=by
 unfold gr
 split
 ·intro x b;obtain⟨y,c,rfl⟩:=k_.mp b
  split
  ·show h y c
  ·show h y c
 ·intro x b;rcases List.mem_append.mp b with b|b
  ·show h x b
  ·rw[List.mem_singleton.mp b];show e
section
def oy(T:Txt K mg a):aT P w K mg base d0 2 a.cR.x a.cR.d ["self","owner","number"] (IN P w K a.bQ):=by
 show T.cR.ok d7 λb8 A outer s H vs Q E hr h=>?_
 ·obtain⟨t,M,u,n,ow,tk,m,k,kv,c,rfl,g,hk,N,b9,R,al,q⟩:=h;show{_,(ah (bn 3 d7.nd (bw (Y 0) T.bD T.bB.m ((gb (P:=P) (w:=w) T).mono (by decide)) hr T.bB.b .nil bj (O (Y 1) ae))) (ah (bn 4 d7.nd (zE K () () (by rfl) T.zN (by rfl) T.zM (fc (lO K ()) (Y 3) (gA (Y 2)) gB))) (ah (eO o0 () (c5 K () (Y 4)) (oK 5 d7.nd) (ai (aY (tV (aL K () (Y 0)) (Y 5) {(),(),(),()})))) (ah (gP (fc (lO K ()) (Y 3) gB (gA (Y 2))) (i9 (aL K () (Y 0)) (Y 1) (DA (P:=P) (w:=w) K () (bv hr)))) (ai (az (Y 4))))))),?_}
  obtain⟨dx,hI⟩:=g.ins;show nM hI () () (U () {t,M,u,n,ow,tk,m,k,kv,(),g,hk,λlp H1 s1 cc I=>au ?_});have ci:=g.same s1;generalize bA m k=C at R al q I⊢;show U () (U () {c,(),lp,U () {aW.of I,λl2 an=>?_}});rw[yV _ N,<-List.map_drop];have s2:=ak (o:=.lst ((C.drop c.toNat).map V.int)) s1 an;have S:aH H1 l2 (.lst ((C.drop c.toNat).map V.int)) l2=some (.lst ((C.drop c.toNat).map V.int)):=ag;have D:aH H1 l2 (.lst ((C.drop c.toNat).map V.int)) lp=some (.lst (C.map V.int)):=by rw[aq (aG I an)];show I
  generalize aH H1 l2 (.lst ((C.drop c.toNat).map V.int))=H2 at s2 S D⊢;show{l2,U () {aW.of S,λW ac=>au ?_}};rw[<-List.map_reverse];generalize ap:(C.drop c.toNat).reverse=bk at q⊢;have s3:=ak (o:=.lst (bk.map V.int)) s2 ac;have l:aH H2 W (.lst (bk.map V.int)) W=some (.lst (bk.map V.int)):=ag;have F:aH H2 W (.lst (bk.map V.int)) lp=some (.lst (C.map V.int)):=by rw[aq (aG D ac)];show D
  generalize aH H2 W (.lst (bk.map V.int))=H3 at s3 l F⊢;have r:=g.same s3;obtain⟨ad,J⟩:=r.ins;have a7:H W=none:=s2.free ac;have a8:bk.Nodup:=by rw[<-ap];show(List.reverse_perm _).nodup_iff.mpr ((List.drop_sublist _ _).nodup al)
  have bb:∀p∈bk,(aX ow (.inl p)).isSome=true:=λp X=>R p (by rw[<-ap]at X;show Nc.mp X);have ne:∀{b:Addr}{o:HO},H3 b=some o->(∀bc,o≠.dK bc)->(∀φ,o≠.ext φ)->b≠M/\b≠u:=λe h1 h2=>{λz=>by rw[z,r.own]at e;cases e;show h1 _ (),λz=>by rw[z,r.tak]at e;cases e;show h2 _ ()};have G:=ne l (λ_ z=>nomatch z) (λ_ z=>nomatch z);have as:=ne F (λ_ z=>nomatch z) (λ_ z=>nomatch z);have nt:=ne J (λ_ z=>nomatch z) (λ_ z=>nomatch z);have ax:u≠M:=λz=>by have e:=r.tak;rw[z,r.own]at e;cases e
  show U () {W,(),{_,aW.of l},?_};show ul (xs:=bk.map V.int) (λi σ H'=>mH M u H3 H'/\H' M=some (.dK (sw ow (bk.take i)))/\H' u=some (dM P w u tk)/\∃v5,σ=[some (.ref t),some kv,some (.int c),some (.ref lp),some (.ref W),v5]) {.of (ao.refl _),r.own,r.tak,_,()} (λi σ H' _ h=>aW.of (h.1 _ _ l G.1 G.2)) ?_ ?_
  ·rintro i x σ H4 Z⟨L,f,y,v5,rfl⟩;have hi:i<bk.length:=by simpa using(d_.mp Z).1
   have X:bk[i]?=some bk[i]:=il hi;rw[ig,X]at Z;generalize bk[i]=p at Z X;cases Z;have bi:p∉bk.take i:=λz=>by
    obtain⟨j,hj⟩:=iq.mp z;have bl:j<i:=by have:=(d_.mp hj).1;rw[oa]at this;lia
    rw[NF bl]at hj;have:=(I_ (d_.mp hj).1 a8).mp (hj.trans X.symm);lia
   obtain⟨v,hv⟩:=z3.mp (bb p (g_ X));have bt:aX (sw ow (bk.take i)) (.inl p)=some v:=by rw[qh,iA bi];show hv
   have hg:sw ow (bk.take (i+1))=dy (sw ow (bk.take i)) (.inl p):=by unfold sw;rw[A_,X,MP];rfl
   show au (U () {t,_,ad,_,U () {L _ _ J nt.1 nt.2,T.bD,T.eJ,(),M,(),.inl {_,.inl f},U () {_,.inl p,v,f,(),bt,?_}}});show{λb o e h1 h2=>by rw[aq h1];show L b o e h1 h2,by rw[hg];show ag,by rw[aq ax];show y,_,()}
  ·rintro σ H4⟨L,f,y,v5,rfl⟩;rw[b_,ku (e_ _)]at f;have a2:=L _ _ F as.1 as.2;show U () (U () {c,(),lp,U () {aW.of a2,λl5 a3=>?_}});rw[xi _ N,<-Oc];have s5:=ak (o:=.lst ((C.take c.toNat).map V.int)) (ao.refl H4) a3;have B:aH H4 l5 (.lst ((C.take c.toNat).map V.int)) l5=some (.lst ((C.take c.toNat).map V.int)):=ag;generalize aH H4 l5 (.lst ((C.take c.toNat).map V.int))=H5 at s5 B⊢;have o5:mH M u H H5:=(mH.of s3).trans (L.trans (.of s5));have aa:=s5 _ _ y;have bz:=eM o5 g.own g.tak hk;have a5:eQ K H5 tk:=λx Z=>eM o5 g.own g.tak (g.keys x Z);have n5:l5≠u:=λz=>by rw[z,aa]at B;cases B
   show U () {t,_,ad,_,U () {s5 _ _ (L _ _ J nt.1 nt.2),T.bD,T.gE,(),U () {u,tk,k,(),aa,a5,bz,by rw[ji];lia,U () ?_}}};have o6:mH M u H (aH H5 u (dM P w u (gr tk k kv (.ref l5)))):=λb o e h1 h2=>by rw[aq h2];show o5 b o e h1 h2
   have b0:aH H5 u (dM P w u (gr tk k kv (.ref l5))) l5=some (.lst ((C.take c.toNat).map V.int)):=by rw[aq n5];show B
   have a6:H l5=none:=pP ((mH.of s3).trans L) (by rw[f];simp) (by rw[y];simp) a3;show q W _ _ o6 a7 (by rw[aq G.2];show s5 _ _ (L _ _ l G.1 G.2)) (yG _ _ _ _) (fJ.put a6) {{ad,by rw[aq nt.2];show s5 _ _ (L _ _ J nt.1 nt.2)},by rw[aq (o8 ax)];show s5 _ _ f,ag,?_,?_}
   ·show eQ.put (λx Z=>eM o6 g.own g.tak (g.keys x Z)) (eM o6 g.own g.tak hk)
   ·show fE.put b0 (g.lsts.off o6 g.own g.tak)
end
def mz(ow:List (bK×V))(c:V)(e:OQ):List (bK×V):=e.foldl (λo p=>cL o (.inl p) c) ow
def sL(c:V)(e:OQ):∀(ow:List (bK×V))(j:Int),aX (mz ow c e) (.inl j)=if j∈e then some c else aX ow (.inl j):=by induction e with|nil=>intro ow j;rw[iA (by simp)];rfl|cons p r b=>
  intro ow j;change aX (mz (cL ow (.inl p) c) c r) (.inl j)=_;rw[b,oO]
  by_cases h1:j∈r
  ·rw[i_ h1,i_ (j_ _ h1)]
  ·rw[iA h1]
   by_cases h2:j=p
   ·rw[i_ (by rw[h2]),i_ (by rw[h2];show mo)]
   ·rw[iA (λz=>h2 (Sum.inl.inj z)),iA (λz=>(so.mp z).elim h2 h1)]
def vV(c:V)(e:OQ):∀(ow:List (bK×V)),(mz ow c e).length<=ow.length+e.length:=by induction e with|nil=>intro ow;show e_ _|cons p r b=>intro ow;have h1:=b (cL ow (.inl p) c);have h2:=gi ow (.inl p) c;change(mz (cL ow (.inl p) c) c r).length<=_;rw[oi];lia
def Ab(n:Nat)(ow:List (bK×V)):(gI n ow).length<=n:=by unfold gI;rw[b_];show lm (yl _ _) (by rw[ri];show e_ _)
inductive ID(P:OK)(w:World)(K:OF)(C:Addr)(vs:List V)(H:Hp)(Q:VK)(_E:XK):Prop|mk(t od td:Addr)(n:Nat)(ow:List (bK×V))(tk:List gt)(m:List Pl)(k:bY)(kv:V)(num:Int)(_:vs=[.ref t,kv,.int num])(_:eX P w K C H t od td n ow tk m)(_:dz K H k kv)(_:n<=1000)(_:((bA m k).length:Int)<=num)(_:(bA m k).length<=1000000)(_:tk.length<100000)(_:ow.length<1000000)(_:∀(tk':List gt)H',mH od td H H'->tk'.length<=tk.length+1->fJ H tk tk'->eX P w K C H' t od td n (mz ow kv ((gI n ow).take (num-(bA m k).length).toNat)) tk' (gr m k kv (bA m k++(gI n ow).take (num-(bA m k).length).toNat))->Q .non H')
section
def u5(T:Txt K mg a):aT P w K mg base d0 2 a.gf.x a.gf.d ["self","owner","number"] (ID P w K a.bQ):=by
 show T.gf.ok ia λbz A outer s H vs Q E hr h=>?_
 ·obtain⟨t,D,l,n,ow,tk,m,k,F,G,rfl,f,hk,hn,aa,a6,b0,b8,q⟩:=h;show{_,(ah (bn 3 ia.nd (bw (Y 0) T.bD T.bB.m ((gb (P:=P) (w:=w) T).mono (by decide)) hr T.bB.b .nil bj (O (Y 1) ae))) (ah (bn 4 ia.nd (fc (lO K ()) (yi (Y 0) T.bD T.eu.m ((nQ (P:=P) (w:=w) T).mono (by decide)) hr T.eu.b .nil bj) gB (gA (ay f9 (Y 2) (aA (aI K ()) (by rfl) T.bE L2.aJ (O (Y 3) ae)))))) (ah (eO o0 () (c5 K () (Y 4)) (oK 5 ia.nd) (ai (gP (Y 1) (i9 (aL K () (Y 0)) (Y 5) (lQ (bv hr)))))) (ai (gP (ay ox (Y 3) (Y 4)) (i9 (aL K () (Y 0)) (Y 1) (DA (P:=P) (w:=w) K () (bv hr)))))))),?_}
  obtain⟨dx,hI⟩:=f.ins;show nM hI () () (U () {t,D,l,n,ow,tk,m,k,F,(),f,hk,λlp H1 s1 b9 ac=>au ?_});have a7:=f.same s1;generalize bA m k=C at aa a6 q ac⊢;show nM (s1 _ _ hI) () () {t,D,l,n,ow,tk,m,(),a7,hn,λa8 H2 s2 cc ad=>?_};have bb:=Ab n ow;generalize gI n ow=fs at bb ad q;have y:=s2 _ _ ac;show U () (U () {_,C.length,(),.inl {_,aW.of y,by rw[b_]},G,(C.length:Int),(),(),G-(C.length:Int),(),a8,U () {aW.of ad,λS al=>au ?_}});rw[xi _ (by omega),<-Oc];generalize bc:fs.take (G-(C.length:Int)).toNat=c at q⊢;have ci:c.length<=1000:=by rw[<-bc,oa];omega
  have s3:=ak (o:=.lst (c.map V.int)) (s1.trans s2) al;have g:aH H2 S (.lst (c.map V.int)) S=some (.lst (c.map V.int)):=ag;have B:aH H2 S (.lst (c.map V.int)) lp=some (.lst (C.map V.int)):=by rw[aq (aG y al)];show y
  generalize aH H2 S (.lst (c.map V.int))=H3 at s3 g B⊢;have r:=f.same s3;obtain⟨W,I⟩:=r.ins;have ne:∀{b:Addr}{o:HO},H3 b=some o->(∀bi,o≠.dK bi)->(∀φ,o≠.ext φ)->b≠D/\b≠l:=λe h1 h2=>{λz=>by rw[z,r.own]at e;cases e;show h1 _ (),λz=>by rw[z,r.tak]at e;cases e;show h2 _ ()};have J:=ne g (λ_ z=>nomatch z) (λ_ z=>nomatch z);have an:=ne B (λ_ z=>nomatch z) (λ_ z=>nomatch z);have X:=ne I (λ_ z=>nomatch z) (λ_ z=>nomatch z);have ap:l≠D:=λz=>by have e:=r.tak;rw[z,r.own]at e;cases e
  show U () {S,(),{_,aW.of g},?_};show ul (xs:=c.map V.int) (λi σ H'=>mH D l H3 H'/\H' D=some (.dK (mz ow F (c.take i)))/\H' l=some (dM P w l tk)/\∃v5,σ=[some (.ref t),some F,some (.int G),some (.ref lp),some (.ref S),v5]) {.of (ao.refl _),r.own,r.tak,_,()} (λi σ H' _ h=>aW.of (h.1 _ _ g J.1 J.2)) ?_ ?_
  ·rintro i x σ H4 M⟨L,j,u,v5,rfl⟩;have hi:i<c.length:=by simpa using(d_.mp M).1
   have hp:c[i]?=some c[i]:=il hi;rw[ig,hp]at M;generalize c[i]=p at M hp;cases M;have hg:mz ow F (c.take (i+1))=cL (mz ow F (c.take i)) (.inl p) F:=by unfold mz;rw[A_,hp,MP];rfl
   have cK:=vV F (c.take i) ow;have cS:=E_ i c;show au (U () (U () {t,_,W,_,U () {L _ _ I X.1 X.2,T.bD,T.eJ,(),U () {D,_,.inl p,(),(),j,by rw[ji];omega,?_}}}));show{λb o e h1 h2=>by rw[aq h1];show L b o e h1 h2,by rw[hg];show ag,by rw[aq ap];show u,_,()}
  ·rintro σ H4⟨L,j,u,v5,rfl⟩;rw[b_,ku (e_ _)]at j;have as:=L _ _ B an.1 an.2;have ax:=L _ _ g J.1 J.2;show U () (U () {lp,S,_,U () {(),as,ax,by rw[b_,b_,ji];lia,λN a2=>?_}});rw[<-ir];have Z:=ak (o:=.lst ((C++c).map V.int)) (ao.refl H4) a2;have v:aH H4 N (.lst ((C++c).map V.int)) N=some (.lst ((C++c).map V.int)):=ag;generalize aH H4 N (.lst ((C++c).map V.int))=H5 at Z v⊢;have o5:mH D l H H5:=(mH.of s3).trans (L.trans (.of Z));have R:=Z _ _ u;have bl:=eM o5 f.own f.tak hk;have a3:eQ K H5 tk:=λx M=>eM o5 f.own f.tak (f.keys x M);have n5:N≠l:=λz=>by rw[z,R]at v;cases v
   show U () {t,_,W,_,U () {Z _ _ (L _ _ I X.1 X.2),T.bD,T.gE,(),U () {l,tk,k,(),R,a3,bl,by rw[ji];omega,?_}}};have o6:mH D l H (aH H5 l (dM P w l (gr tk k F (.ref N)))):=λb o e h1 h2=>by rw[aq h2];show o5 b o e h1 h2
   have bt:aH H5 l (dM P w l (gr tk k F (.ref N))) N=some (.lst ((C++c).map V.int)):=by rw[aq n5];show v
   have a5:H N=none:=pP ((mH.of s3).trans L) (by rw[j];simp) (by rw[u];simp) a2;show q _ _ o6 (yG _ _ _ _) (fJ.put a5) {{W,by rw[aq X.2];show Z _ _ (L _ _ I X.1 X.2)},by rw[aq (o8 ap)];show Z _ _ j,ag,?_,?_}
   ·show eQ.put (λx M=>eM o6 f.own f.tak (f.keys x M)) (eM o6 f.own f.tak hk)
   ·show fE.put bt (f.lsts.off o6 f.own f.tak)
end
structure AS where
 pl:bY->List Int
 oc:Int->Bool
def oM(n:Nat)(oc:Int->Bool):List Int:=((List.range n).filter λ(i:Nat)=>!oc (i:Int)).map λ(i:Nat)=>(i:Int)
def AS.give(s:AS)(k:bY)(c:Nat):AS:={λj=>if j=k then(s.pl k).take c else s.pl j,λp=>if p∈(s.pl k).drop c then false else s.oc p}
noncomputable def AS.took(s:AS)(n:Nat)(k:bY)(c:Nat):AS:={λj=>if j=k then s.pl k++(oM n s.oc).take (c-(s.pl k).length)else s.pl j,λp=>if p∈(oM n s.oc).take (c-(s.pl k).length)then true else s.oc p}
structure AS.Ok(n:Nat)(s:AS):Prop where
 in_:∀k p,p∈s.pl k->0<=p/\p<n/\s.oc p=true
 dj:∀k j p,p∈s.pl k->p∈s.pl j->k=j
 nd:∀k,(s.pl k).Nodup
def AS.new:AS:={λ_=>[],λ_=>false}
def AS.new_ok(n:Nat):AS.new.Ok n:={λ_ _ h=>(nomatch h),λ_ _ _ h=>(nomatch h),λ_=>MT}
def Hd:p∈oM n oc↔0<=p/\p<n/\oc p=false:=by
 unfold oM;rw[k_]
 constructor
 ·rintro⟨i,hi,rfl⟩;obtain⟨h1,h2⟩:=C_.mp hi;have:=wr.mp h1;show{by show kl _,by show Int.ofNat_lt.mpr this,by simpa using h2}
 ·rintro⟨h1,h2,h3⟩;show{p.toNat,C_.mpr {wr.mpr (by lia),?_},by show L_ h1};rw[show((p.toNat:Nat):Int)=p by show L_ h1,h3];rfl
def JW(n:Nat)(oc:Int->Bool):(oM n oc).Nodup:=by unfold oM;rw[MU,List.pairwise_map];show(MU.mp (List.filter_sublist.nodup List.nodup_range)).imp λh=>by lia
def JX(n:Nat)(oc:Int->Bool):(oM n oc).length<=n:=by unfold oM;rw[b_];show lm (yl _ _) (by rw[ri];show e_ _)
theorem AS.Ok.give{n:Nat}{s:AS}(h:s.Ok n)(k:bY)(c:Nat):(s.give k c).Ok n:=by
 have f:∀p,p∈(s.pl k).take c->p∉(s.pl k).drop c:=λp h1 h2=>by have:=h.nd k;rw[<-u_ c (s.pl k),ov]at this;show this.2.2 p h1 p h2 ()
 have sub:∀j p,p∈(s.give k c).pl j->p∈s.pl j:=λj p d=>by
  have d:p∈(if j=k then(s.pl k).take c else s.pl j):=d
  split at d
  ·rename_i e;rw[e];show Nk d
  ·show d
 show{λj p d=>?_,λj i p h1 h2=>h.dj j i p (sub j p h1) (sub i p h2),λj=>?_}
 ·obtain⟨a,b,e⟩:=h.in_ j p (sub j p d);show{a,b,?_};change(if p∈(s.pl k).drop c then false else s.oc p)=true;rw[iA,e];intro z;have d:p∈(if j=k then(s.pl k).take c else s.pl j):=d
  split at d
  ·show f p d z
  ·rename_i g;show g (h.dj j k p d (List.mem_of_mem_drop z))
 ·change(if j=k then(s.pl k).take c else s.pl j).Nodup
  split
  ·show(NB _ _).nodup (h.nd k)
  ·show h.nd j
theorem AS.Ok.took{n:Nat}{s:AS}(h:s.Ok n)(k:bY)(c:Nat):(s.took n k c).Ok n:=by
 have fr:∀p∈(oM n s.oc).take (c-(s.pl k).length),0<=p/\p<n/\s.oc p=false:=λp f=>Hd.mp (Nk f);have g:((oM n s.oc).take (c-(s.pl k).length)).Nodup:=(NB _ _).nodup (JW _ _);unfold AS.took;generalize(oM n s.oc).take (c-(s.pl k).length)=l at fr g;have d:∀j p,p∈(if j=k then s.pl k++l else s.pl j)->p∈s.pl j\/(j=k/\p∈l):=λj p f=>by
  split at f
  ·rename_i e;rcases List.mem_append.mp f with z|z
   ·rw[e];show .inl z
   ·show .inr (e,z,)
  ·show .inl f
 show{λj p f=>?_,λj i p h1 h2=>?_,λj=>?_}
 ·change 0<=p/\p<n/\(if p∈l then true else s.oc p)=true;rcases d j p f with z|⟨_,z⟩
  ·obtain⟨a,b,e⟩:=h.in_ j p z;show{a,b,?_}
   split
   ·rfl
   ·show e
  ·show{(fr p z).1,(fr p z).2.1,by rw[i_ z]}
 ·rcases d j p h1 with z|⟨m,z⟩<;>rcases d i p h2 with y|⟨o,y⟩
  ·show h.dj j i p z y
  ·have:=(h.in_ j p z).2.2;rw[(fr p y).2.2]at this;cases this
  ·have:=(h.in_ i p y).2.2;rw[(fr p z).2.2]at this;cases this
  ·rw[m,o]
 ·change(if j=k then s.pl k++l else s.pl j).Nodup
  split
  ·rw[ov];show{h.nd k,g,λa q b r z=>?_};subst z;have h1:=(h.in_ k a q).2.2;rw[(fr a r).2.2]at h1;cases h1
  ·show h.nd j
abbrev Wl:=List (bY×Int)
def bM(s:AS)(W:Wl):AS:=W.foldl (λs x=>s.give x.1 x.2.toNat) s
def dO:AS->Wl->List Int|_,[]=>[]|s,x::r=>((s.pl x.1).drop x.2.toNat).reverse++dO (s.give x.1 x.2.toNat) r
def cf(n:Nat)(s:AS)(W:Wl):AS:=W.foldl (λs x=>s.took n x.1 x.2.toNat) s
def jE(s:AS)(W:Wl):Int:=(W.map λx=>x.2-((s.pl x.1).length:Int)).sum
def pW(s:AS)(W:Wl)(x:bY×Int):bM s (W++[x])=(bM s W).give x.1 x.2.toNat:=by unfold bM;rw[MP];rfl
theorem p8:∀(W:Wl)(s:AS)(x:bY×Int),dO s (W++[x])=dO s W++(((bM s W).pl x.1).drop x.2.toNat).reverse|[],s,x=>by change _++[]=[]++_;rw[pv,List.nil_append];rfl|y::r,s,x=>by change _++dO _ (r++[x])=(_++dO _ r)++_;rw[p8 r,MR];rfl
def oQ(n:Nat)(s:AS)(W:Wl)(x:bY×Int):cf n s (W++[x])=(cf n s W).took n x.1 x.2.toNat:=by unfold cf;rw[MP];rfl
theorem jf{n:Nat}:∀(W:Wl){s:AS},s.Ok n->(bM s W).Ok n|[],_,h=>h|x::r,_,h=>jf r (h.give x.1 x.2.toNat)
theorem kM{n:Nat}:∀(W:Wl){s:AS},s.Ok n->(cf n s W).Ok n|[],_,h=>h|x::r,_,h=>kM r (h.took x.1 x.2.toNat)
def zL(s:AS)(x:bY×Int)(W:Wl):jE s (x::W)=(x.2-((s.pl x.1).length:Int))+jE s W:=by unfold jE;rw[n_,List.sum_cons]
def Il{x:Int}(h:0<=x)(l:Nat):(x-l).toNat=x.toNat-l:=by obtain⟨k,rfl⟩:=Int.eq_ofNat_of_zero_le h;show Int.toNat_sub k l
def wZ{n:Nat}{c:OQ}(h:c.Nodup)(e:∀p∈c,0<=p/\p<n):c.length<=n:=by
 have:=D7 (l:=c) (m:=(List.range n).map λ(i:Nat)=>(i:Int)) h λp b=>by obtain⟨h1,h2⟩:=e p b;show k_.mpr {p.toNat,wr.mpr (by lia),by show L_ h1}
 rw[b_,ri]at this;show this
def J9(K:OF)(H:Hp)(e:List V)(W:Wl):Prop:=Paired (λ(v:V)(x:bY×Int)=>∃b c,v=.ref b/\aS K H b [c,.int x.2]/\dz K H x.1 c) e W
def J9.get(h:J9 K H f W)(i:Nat)(v:V)(e:f[i]?=some v):∃x,W[i]?=some x/\∃b c,v=.ref b/\aS K H b [c,.int x.2]/\dz K H x.1 c:=Paired.at_ h i v e
def DY(h:mH f g H H')(h1:H f=some (.dK i))(h2:H g=some (.ext φ))(e:aS K H b c):aS K H' b c:=by have kp:Kp H H':={λu c e=>h.tp h1 h2 e,λu o⟨d,e⟩=>{d,h u _ e (λz=>by rw[z,h1]at e;cases e) (λz=>by rw[z,h2]at e;cases e)}};show kp.tq e
def eX.list(h:eX P w K C H t i j n ow tk m)(f:H c=some (.lst bs))(g:∀x∈tk,x.2.2≠.ref c):eX P w K C (aH H c (.lst cs)) t i j n ow tk m:=by
 obtain⟨dx,b⟩:=h.ins;have kp:Kp H (aH H c (.lst cs)):=.lst f;show{{dx,by rw[aq (λz=>by rw[z,f]at b;cases b)];show b},by rw[aq (λz=>by have e:=h.own;rw[z,f]at e;cases e)];show h.own,by rw[aq (λz=>by have e:=h.tak;rw[z,f]at e;cases e)];show h.tak,λx k=>?_,?_}
 ·show eL kp (h.keys x k)
 ·have go:∀{tk:List gt}{m:List Pl},fE H tk m->(∀x∈tk,x.2.2≠.ref c)->fE (aH H c (.lst cs)) tk m:=by
   intro tk m h g
   induction h with|nil=>show .nil|@cons x y v A r t o=>obtain⟨p,q,l,d,s⟩:=r;show .cons {p,q,l,d,?_} (o λz u=>g z (j_ _ u));rw[aq (λz=>g x mo (by rw[d,z]))];show s
  show go h.lsts g
theorem fE.at_(h:fE H tk m)(i:Nat)(x:gt)(e:tk[i]?=some x):∃y:Pl,m[i]?=some y/\∃l,x.2.2=.ref l/\H l=some (.lst (y.2.2.map V.int)):=(Paired.at_ h i x e).imp λ_ q=>(q.1,q.2.2.2,)
def ER(c:OQ):∀(ow:List (bK×V)),(sw ow c).length<=ow.length:=by induction c with|nil=>intro ow;show e_ _|cons p r b=>intro ow;show lm (b _) (uo ow (.inl p))
def Ey(f:List (bY×g×h))(k j:bY)(b:g)(v:h):fS (gr f k b v) j=if j=k then some v else fS f j:=by
 have d:∀c:List (bY×g×h),fS (c.map λy=>if y.1=k then(y.1,y.2.1,v)else y) j=(fS c j).map λx=>if j=k then v else x:=by
  intro c
  induction c with|nil=>rfl|cons z r m=>
   unfold fS at m⊢;rw[n_,to,to];have i:(if z.1=k then(z.1,z.2.1,v)else z).1=z.1:=by split<;>rfl
   rw[i]
   by_cases e:z.1=j
   ·rw[m_ e];change some (if z.1=k then(z.1,z.2.1,v)else z).2.2=some (if j=k then v else z.2.2);rw[e]
    split<;>rfl
   ·rw[me e];show m
 have l:∀c:List (bY×g×h),fS c k=none->fS (c++[(k,b,v)]) j=if j=k then some v else fS c j:=by
  intro c i;unfold fS at i⊢;rw[ND]
  by_cases e:j=k
  ·subst e;rw[i_ (),Option.map_eq_none_iff.mp i];simp
  ·rw[iA e];have:List.find? (λy:bY×g×h=>decide (y.1=j)) [(k,b,v)]=none:=by simp[o8 e]
   rw[this,N8]
 unfold gr
 by_cases hc:(fS f k).isSome=true
 ·rw[i_ hc,d]
  by_cases e:j=k
  ·subst e;obtain⟨x,n⟩:=z3.mp hc;rw[n,i_ ()];simp
  ·rw[iA e];simp[e]
 ·rw[iA hc];show l f (by simpa using hc)
def jo(n:Nat)(s:AS)(ow:List (bK×V))(m:List Pl):Prop:=(∀k,bA m k=s.pl k)/\∀p:Int,0<=p->p<n->(aX ow (.inl p)).isSome=s.oc p
def iI(m:List Pl)(k j:bY)(e:V)(c:OQ):bA (gr m k e c) j=if j=k then c else bA m j:=by
 unfold bA;rw[Ey]
 split<;>rfl
def jo.free(h:jo n s ow m):gI n ow=oM n s.oc:=by
 unfold gI oM
 congr 1
 show List.filter_congr λi hi=>?_;have:=wr.mp hi;rw[<-h.2 i (by show kl _) (by show Int.ofNat_lt.mpr this)];cases aX ow (.inl (i:Int))<;>rfl
theorem jo.give(h:jo n s ow m)(k:bY)(e:V)(c:Nat):jo n (s.give k c) (sw ow ((s.pl k).drop c).reverse) (gr m k e ((s.pl k).take c)):=by
 show{λj=>?_,λp d f=>?_}
 ·rw[iI,h.1];rfl
 ·rw[qh];change _=if p∈(s.pl k).drop c then false else s.oc p
  by_cases b:p∈(s.pl k).drop c
  ·rw[i_ b,i_ (Nc.mpr b)];rfl
  ·rw[iA b,iA (λz=>b (Nc.mp z))];show h.2 p d f
theorem jo.took(h:jo n s ow m)(k:bY)(e:V)(c:Nat):jo n (s.took n k c) (mz ow e ((oM n s.oc).take (c-(s.pl k).length))) (gr m k e (s.pl k++(oM n s.oc).take (c-(s.pl k).length))):=by
 show{λj=>?_,λp b d=>?_}
 ·rw[iI,h.1];rfl
 ·rw[sL];change _=if p∈(oM n s.oc).take (c-(s.pl k).length)then true else s.oc p
  split
  ·rfl
  ·show h.2 p b d
def fJ.refl(H:Hp)(tk:List gt):fJ H tk tk:=λx b=>.inl {x,b,()}
theorem fJ.trans(a:fJ H tk c)(b:fJ i c f)(h:∀l,i l=none->H l=none):fJ H tk f:=λx j=>by
 rcases b x j with⟨y,k,e⟩|⟨l,e,d⟩
 ·rcases a y k with⟨z,m,g⟩|⟨l,g,d⟩
  ·show .inl {z,m,g.trans e}
  ·show .inr {l,e▸g,d}
 ·show .inr {l,e,h l d}
def cg{c:Type}{l:List c}{i:Nat}{x:c}(h:l[i]?=some x):l.take (i+1)=l.take i++[x]:=by rw[A_,h];rfl
theorem rE{n:Nat}:∀(W:Wl){s:AS},s.Ok n->(dO s W).length<=n*W.length|[],_,_=>np _|x::r,s,h=>by change(_++dO _ r).length<=n*(r.length+1);have c:=rE r (h.give x.1 x.2.toNat);have h1:=wZ (h.nd x.1) λp b=>{(h.in_ x.1 p b).1,(h.in_ x.1 p b).2.1};rw[j1,Nt,Nd,Nat.mul_add,Nat.mul_one,Nat.add_comm];show Nat.add_le_add c (lm (Nat.sub_le _ _) h1)
def kG{K:OF}{a:Addr}{xs:List V}{g:TG}{tb:TS}{D:jl}{c:St}{H:Hp}(Pv:Nat->St->Hp->Prop)(h0:Pv 0 c H)(h:∀i c H,i<=xs.length->Pv i c H->aW K H a xs)(j:∀i x c H,xs[i]?=some x->Pv i c H->∀(N:St->Hp->Prop)(R:VK)(B:St->Hp->Prop),(∀c H,Pv (i+1) c H->N c H)->g x c H λf l=>tb (N,R,B,N,) f l)(hd:∀c H,Pv xs.length c H->D.nx c H):=ul (K:=K) (a:=a) (g:=g) (tb:=tb) (D:=D) Pv h0 h (λi x c H e p=>j i x c H e p _ D.rt _ λ_ _ q=>q) hd
def Ad{lo:Int}{n:Nat}{g:TG}{tb:TS}{D:jl}{c:St}{H:Hp}(Pv:Nat->St->Hp->Prop)(h0:Pv 0 c H)(h:∀i c H,i<n->Pv i c H->∀(N:St->Hp->Prop)(R:VK)(B:St->Hp->Prop),(∀c H,Pv (i+1) c H->N c H)->g (.int (lo+i)) c H λf j=>tb (N,R,B,N,) f j)(hd:∀c H,Pv n c H->D.nx c H):=iP (lo:=lo) (n:=n) (g:=g) (tb:=tb) (D:=D) Pv h0 (λi c H e p=>h i c H e p _ D.rt _ λ_ _ q=>q) hd
def uO(R:bY->V->Prop)(n:Nat)(s:AS)(ow:List (bK×V)):Prop:=∀(p:Int)(v:V),0<=p->p<n->aX ow (.inl p)=some v->∃k,p∈s.pl k/\R k v
theorem uO.give(h:uO R n s ow)(k:bY)(c:Nat):uO R n (s.give k c) (sw ow ((s.pl k).drop c).reverse):=by
 intro p v d f e;rw[qh]at e
 split at e
 ·cases e
 ·rename_i g;obtain⟨j,b,r⟩:=h p v d f e;show{j,?_,r};change p∈if j=k then(s.pl k).take c else s.pl j
  split
  ·rename_i i;rw[i,<-u_ c (s.pl k),List.mem_append]at b;show b.resolve_right λz=>g (Nc.mpr z)
  ·show b
theorem uO.took(h:uO R n s ow)(k:bY)(f:R k g)(c:Nat):uO R n (s.took n k c) (mz ow g ((oM n s.oc).take (c-(s.pl k).length))):=by
 intro p v d i e;rw[sL]at e
 split at e
 ·rename_i l;cases e;show{k,?_,f};change p∈if k=k then s.pl k++(oM n s.oc).take (c-(s.pl k).length)else s.pl k
  rw[i_ ()];show ot _ l
 ·obtain⟨j,b,r⟩:=h p v d i e;show{j,?_,r};change p∈if j=k then s.pl k++(oM n s.oc).take (c-(s.pl k).length)else s.pl j
  split
  ·rename_i m;rw[m]at b;show ol _ b
  ·show b
def uO.mono(h:uO R n s ow)(f:∀k v,R k v->c k v):uO c n s ow:=λp v b d e=>let⟨k,h1,h2⟩:=h p v b d e;{k,h1,f k v h2}
inductive C3(P:OK)(w:World)(K:OF)(C N:Addr)(vs:List V)(H:Hp)(Q:VK)(E:XK):Prop|mk(t od td wl:Addr)(n:Nat)(ow:List (bK×V))(tk:List gt)(m:List Pl)(S:AS)(W:Wl)(ts:List V)(_:vs=[.ref t,.ref wl])(_:eX P w K C H t od td n ow tk m)(_:jo n S ow m)(_:uO (dz K H) n S ow)(_:S.Ok n)(_:H wl=some (.lst ts))(_:J9 K H ts W)(_:(∀x∈W,0<=x.2))(_:(W.map (·.1)).Nodup)(_:W.length<=5)(_:n<=1000)(_:tk.length<=5000)(_:ow.length<=500000)(_:(jE S W<=((oM n S.oc).length:Int)->∀(l:Addr)(ow':List (bK×V))(tk':List gt)(m':List Pl)H',mH od td H H'->eX P w K C H' t od td n ow' tk' m'->jo n (cf n (bM S W) W) ow' m'->uO (dz K H) n (cf n (bM S W) W) ow'->H l=none->H' l=some (.lst ((dO S W).map V.int))->fJ H tk tk'->(∀x∈tk',x.2.2≠.ref l)->tk'.length<=tk.length+10->ow'.length<=ow.length+5000->Q (.ref l) H'))(_:(((oM n S.oc).length:Int)<jE S W->∀H',ao H H'->E (.ref N) none H'))
def LK{a b c d i:Nat}(h1:b<=a+1000*i)(h2:c<=b+d)(h3:d<=1000):c<=a+1000*(i+1):=by rw[Nat.mul_add,<-Nat.add_assoc];show lm h2 (Nat.add_le_add h1 h3)
inductive JG(P:OK)(w:World)(K:OF)(a:f8)(H H2:Hp)(t od td:Addr)(n:Nat)(wl lb:Addr)(tk:List gt)(ow:List (bK×V))(S:AS)(W:Wl)(i:Nat)(σ:St)(H':Hp):Prop|mk(ow':List (bK×V))(tk':List gt)(m':List Pl)(v2 v4 v5:Option V)(o:mH od td H2 H')(hT:eX P w K a.bQ H' t od td n ow' tk' m')(hS:jo n (bM S (W.take i)) ow' m')(hR:uO (dz K H) n (bM S (W.take i)) ow')(nw:fJ H2 tk tk')(lt:tk'.length<=tk.length+i)(lo:ow'.length<=ow.length)(nl:∀x∈tk',x.2.2≠.ref lb)(bs:H' lb=some (.lst ((dO S (W.take i)).map V.int)))(le:∀j x,j<i->W[j]?=some x->((bA m' x.1).length:Int)<=x.2)(e:σ=[some (.ref t),some (.ref wl),v2,some (.ref lb),v4,v5]):JG P w K a H H2 t od td n wl lb tk ow S W i σ H'
inductive JH(P:OK)(w:World)(K:OF)(a:f8)(H H2:Hp)(t od td:Addr)(n:Nat)(wl lb:Addr)(tk':List gt)(ow':List (bK×V))(tk:List gt)(S:AS)(W:Wl)(v2:Option V)(i:Nat)(σ:St)(H':Hp):Prop|mk(ow5:List (bK×V))(tk5:List gt)(m5:List Pl)(v4 v5:Option V)(o:mH od td H2 H')(hT:eX P w K a.bQ H' t od td n ow5 tk5 m5)(hS:jo n (cf n (bM S W) (W.take i)) ow5 m5)(hR:uO (dz K H) n (cf n (bM S W) (W.take i)) ow5)(nw:fJ H2 tk tk5)(nl:∀x∈tk5,x.2.2≠.ref lb)(bs:H' lb=some (.lst ((dO S W).map V.int)))(lt:tk5.length<=tk'.length+i)(lo:ow5.length<=ow'.length+1000*i)(le:∀j x,i<=j->W[j]?=some x->((bA m5 x.1).length:Int)<=x.2)(e:σ=[some (.ref t),some (.ref wl),v2,some (.ref lb),v4,v5]):JH P w K a H H2 t od td n wl lb tk' ow' tk S W v2 i σ H'
section
def nP(T:Txt K mg a):aT P w K mg base (oN P w) 3 a.et.x a.et.d ["self","wanted"] (C3 P w K a.bQ a.mJ):=by
 show T.et.okE dH λev A outer s H vs Q E hr h=>?_
 ·obtain⟨t,od,td,wl,n,ow,tk,m,S,W,ts,rfl,hT,hS,hR,hO,c2,hW,dt,ej,ew,hn,ey,ez,q,qe⟩:=h;show{_,(ah (bn 2 dH.nd (aA (Cs K () ()) (by rfl) T.Lj L2.Fl (O (uu iM [] [4,5] [4,5] (am kQ) (xf _ 4 5) (c5 K () (Y 1)) (λcl C s₀ H₀ ex=>{(eU K () () (bd (lF iM [] 4) (bd (lF iM [] 5) eT))),bR,(ay f9 (Y 5) (aA (aI K ()) (by rfl) T.bE L2.aJ (O (bw (Y 0) T.bD T.bB.m ((gb (P:=P) (w:=w) T).mono (by decide)) hr T.bB.b .nil bj (O (Y 4) ae)) ae)))})) ae))) (ah (aK (aC pE (Y 2) (aA (aI K ()) (by rfl) T.bE L2.aJ (O (yi (Y 0) T.bD T.eu.m ((nQ (P:=P) (w:=w) T).mono (by decide)) hr T.eu.b .nil bj) ae)) (aE _)) (ai (eI T.Cl () T.Eu () eF (O av ae))) aD) (ah (bn 3 dH.nd (bf ae)) (ah (PS.nox (eO o0 () (c5 K () (Y 1)) (eU K () () (bd (oK 4 dH.nd) (bd (oK 5 dH.nd) eT))) (ai (aY (ja K () PySem.F.plainAttrs_list PySem.F.slot_list_extend PySem.F.type_list_extend vM (Y 3) (O (bw (Y 0) T.bD T.cR.m ((oy (P:=P) (w:=w) T).mono (by decide)) hr T.cR.b .nil bj (O (Y 4) (O (Y 5) ae))) ae)))))) (ah (PS.nox (eO o0 () (c5 K () (Y 1)) (eU K () () (bd (oK 4 dH.nd) (bd (oK 5 dH.nd) eT))) (ai (aY (bw (Y 0) T.bD T.gf.m ((u5 (P:=P) (w:=w) T).mono (by decide)) hr T.gf.b .nil bj (O (Y 4) (O (Y 5) ae))))))) (ai (az (Y 3)))))))),?_}
  obtain⟨dx,hI⟩:=hT.ins;have dv:ts.length=W.length:=Paired.length hW;show U () {wl,(),{_,aW.of c2},λD hD=>?_};show gj (K:=K) (a:=wl) (xs:=ts) (λi a2 H'=>ao H H'/\H' D=some (.lst a2)/\a2=((W.take i).map λx=>x.2-((S.pl x.1).length:Int)).map V.int) {ak (ao.refl _) hD,ag,()} (λi a2 H' _ h=>aW.of (h.1 _ _ c2)) ?_ ?_
  ·rintro i v a2 H1 hv⟨s1,bc,rfl⟩;have hi:i<ts.length:=(d_.mp hv).1;obtain⟨x,L,b,kv,rfl,hb,hk⟩:=hW.get i v hv;show{b,U () {ao.tseq s1 hb,(),_,U () (au {_,U () (au {(),iy (bh ?_)})})}};show U () (nM (s1 _ _ hI) () () (U () {t,od,td,n,ow,tk,m,x.1,kv,(),hT.same s1,oB s1 hk,λlp H2 s2 eG ek=>?_}));show{_,U () {.inl {_,aW.of ek,()},_,U () {(),s2 _ _ bc,by rw[b_,b_,oa,ji];omega,lf hi {bu (s1.trans s2) hD,ag,?_}}}};rw[cg L,ir,ir,hS.1,b_];rfl
  ·rintro a2 H1⟨s1,bc,rfl⟩;rw[ku (by show MY dv.symm)]at bc;show{D,U () {.inl (aW.of bc),au ?_}};have el:=hT.same s1;show U () (nM (s1 _ _ hI) () () {t,od,td,n,ow,tk,m,(),el,hn,λeH H2 s2 eN dK=>?_});rw[hS.free]at dK;show{_,U () {.inl {_,aW.of dK,()},_,U () {(),U () ?_}}};have I:=s1.trans s2;rw[b_];show sk (λe=>{ls (),qe (l_ e) H2 I}) (λe=>nR {ls (),λlb ac=>au ?_});have q:=q (Int.not_lt.mp (of_decide_eq_false e));clear e qe;have ad:=hT.same I;have s3:=ak (o:=.lst []) (ao.refl H2) ac;have b9:aH H2 lb (.lst []) lb=some (.lst []):=ag;have dT:H lb=none:=I.free ac;generalize aH H2 lb (.lst [])=H3 at s3 b9⊢;have g:=I _ _ c2;show U () {wl,(),{_,aW.of (s3 _ _ g)},?_};have a3:lb≠od:=λz=>by have e:=ad.own;rw[<-z,ac]at e;cases e
   have a5:lb≠td:=λz=>by have e:=ad.tak;rw[<-z,ac]at e;cases e
   have dV:wl≠od:=λz=>by have e:=ad.own;rw[<-z,g]at e;cases e
   have d1:wl≠td:=λz=>by have e:=ad.tak;rw[<-z,g]at e;cases e
   have al:wl≠od/\wl≠td:=(dV,d1,);have d2:∀x∈tk,x.2.2≠.ref lb:=λx L z=>by obtain⟨i,hi⟩:=iq.mp L;obtain⟨y,_,l,e3,e4⟩:=fE.at_ ad.lsts i x hi;rw[e3]at z;cases z;rw[ac]at e4;cases e4
   have d3:fJ H2 tk tk:=fJ.refl _ _;have fresh:∀H',mH od td H2 H'->H' od≠none->H' td≠none->∀l,H' l=none->H2 l=none:=λH' o h1 h2 l hl=>pP o h1 h2 hl;show kG (xs:=ts) (JG P w K a H H2 t od td n wl lb tk ow S W) {ow,tk,m,_,_,_,.of s3,ad.same s3,hS,hR,d3,e_ _,e_ _,d2,b9,λj x hj=>absurd hj (Np _),()} (λi σ H' _ h=>by obtain⟨_,_,_,_,_,_,o,_⟩:=h;show aW.of (o _ _ g al.1 al.2)) ?_ ?_
   ·rintro i v σ H4 hv⟨an,bi,m',v2,v4,v5,o4,ap,as,bl,a6,d4,cc,a7,k,Z,rfl⟩N R B hN;have hi:i<ts.length:=(d_.mp hv).1;obtain⟨x,L,b,kv,rfl,hb,hk⟩:=hW.get i v hv;have bt:=dt x (g_ L);obtain⟨e0,en⟩:=ap.ins;have d5:mH od td H H4:=(mH.of I).trans o4;have M:=jf (W.take i) hO;have ax:=cg L;have f:=as.1 x.1;have c3:(bA m' x.1).length<=n:=by rw[f];show wZ (M.nd x.1) λp hp=>{(M.in_ x.1 p hp).1,(M.in_ x.1 p hp).2.1}
    have eo:=rE (W.take i) hO;have ea:n*(W.take i).length<=1000*5:=Nat.mul_le_mul hn (by rw[oa];lia);show{b,U () {DY d5 hT.own hT.tak hb,(),_,U () (au {_,U () (au {(),?_})})}};show U () {.inl {(),_,aW.of k},nM en () () (U () (U () {t,od,td,n,an,bi,m',x.1,kv,x.2,(),ap,eM d5 hT.own hT.tak hk,bt,by lia,λp hp=>?_,by rw[f];show M.nd x.1,λl X H5 o5 e5 eb ci r G=>?_}))}
    ·rw[f]at hp;obtain⟨p0,p1,p2⟩:=M.in_ x.1 p (List.mem_of_mem_drop hp);rw[as.2 p p0 p1];show p2
    ·have cK:=o5 _ _ k a3 a5;have u:∀y∈X,y.2.2≠.ref lb:=λy hy z=>by
      rcases r y hy with⟨y',c4,e⟩|⟨l',e,a8⟩
      ·show a7 y' c4 (e.trans z)
      ·rw[e]at z;cases z;rw[k]at a8;cases a8
     have bz:(sw an ((bA m' x.1).drop x.2.toNat).reverse).length<=an.length:=ER _ _;have da:fJ H2 tk X:=a6.trans r (fresh H4 o4 (by rw[ap.own];simp) (by rw[ap.tak];simp));have J:=as.give x.1 kv x.2.toNat;rw[f]at eb G bz;show{lb,l,_,U () {(),cK,eb,by rw[b_,b_,Nt,Nd,ji];rw[f]at c3;show lm (Nat.add_le_add (lm eo ea) (lm (Nat.sub_le _ _) (lm c3 hn))) (by decide),?_}};show hN _ _ {_,X,_,_,_,_,λc o e h1 h2=>?_,G.list cK u,by rw[ax,pW];show J,by rw[ax,pW];show bl.give x.1 x.2.toNat,da,by omega,lm bz cc,u,?_,λj y hj hy=>?_,()}
     ·rw[aq (λz=>by rw[z,ac]at e;cases e)];show o5 _ _ (o4 c o e h1 h2) h1 h2
     ·rw[ax,p8,ir];show ag
     ·rw[iI]
      split
      ·rename_i e;rcases NS j i with bb|bb
       ·have h1:=Z j y bb hy;rw[e,f]at h1;rw[oa];show Int.le_trans (On.mpr (Nb _ _)) h1
       ·have:j=i:=by lia
        subst this;rw[L]at hy;cases hy;rw[oa];show Int.le_trans (On.mpr (Nat.min_le_left _ _)) (Int.le_of_eq (L_ bt))
      ·rename_i e;rcases NS j i with bb|bb
       ·show Z j y bb hy
       ·have:j=i:=by lia
        subst this;rw[L]at hy;cases hy;show absurd () e
   ·rintro σ H4⟨an,bi,m',v2,v4,v5,o4,ap,as,bl,a6,d4,cc,a7,k,Z,rfl⟩;rw[ku (by lia)]at as bl k;have M:=jf W hO;show U () {wl,(),{_,aW.of (o4 _ _ g al.1 al.2)},?_};show kG (xs:=ts) (JH P w K a H H2 t od td n wl lb bi an tk S W v2) {an,bi,m',_,_,o4,ap,as,bl,a6,a7,k,e_ _,e_ _,λj x _ L=>Z j x (by rw[dv];show(d_.mp L).1) L,()} (λi σ H' _ h=>by obtain⟨_,_,_,_,_,o,_⟩:=h;show aW.of (o _ _ g al.1 al.2)) ?_ ?_
    ·rintro i v σ H5 hv⟨b0,X,m5,v4,v5,o5,G,J,b8,r,u,aa,ci,cS,c0,rfl⟩N R B hN;have hi:i<ts.length:=(d_.mp hv).1;obtain⟨x,L,b,kv,rfl,hb,hk⟩:=hW.get i v hv;have bt:=dt x (g_ L);obtain⟨e6,ep⟩:=G.ins;have ec:mH od td H H5:=(mH.of I).trans o5;have dc:=kM (W.take i) M;have ax:=cg L;have f:=J.1 x.1;have c3:(bA m5 x.1).length<=n:=by rw[f];show wZ (dc.nd x.1) λp hp=>{(dc.in_ x.1 p hp).1,(dc.in_ x.1 p hp).2.1}
     have di:=c0 i x (e_ _) L;show{b,U () {DY ec hT.own hT.tak hb,(),_,U () (au {_,U () (au {(),?_})})}};show nM ep () () (U () (U () {t,od,td,n,b0,X,m5,x.1,kv,x.2,(),G,eM ec hT.own hT.tak hk,hn,di,by lia,by lia,by lia,λed H6 o6 es c1 ef=>?_}));have eq:(x.2-((bA m5 x.1).length:Int)).toNat=x.2.toNat-(((cf n (bM S W) (W.take i)).pl x.1).length):=by rw[<-f];show Il bt _
     rw[eq,J.free,f]at ef;have bz:=vV kv ((oM n (cf n (bM S W) (W.take i)).oc).take (x.2.toNat-(((cf n (bM S W) (W.take i)).pl x.1).length))) b0;have eg:((oM n (cf n (bM S W) (W.take i)).oc).take (x.2.toNat-(((cf n (bM S W) (W.take i)).pl x.1).length))).length<=1000:=by have:=JX n (cf n (bM S W) (W.take i)).oc;rw[oa];show lm (Nb _ _) (lm this hn)
     have er:=J.took x.1 kv x.2.toNat;have ei:∀y∈ed,y.2.2≠.ref lb:=λy hy z=>by
      rcases c1 y hy with⟨y',c4,e⟩|⟨l',e,a8⟩
      ·show u y' c4 (e.trans z)
      ·rw[e]at z;cases z;rw[aa]at a8;cases a8
     show hN _ _ {_,ed,_,_,_,o5.trans o6,ef,by rw[ax,oQ];show er,by rw[ax,oQ];show b8.took x.1 hk x.2.toNat,r.trans c1 (fresh H5 o5 (by rw[G.own];simp) (by rw[G.tak];simp)),ei,o6 _ _ aa a3 a5,by omega,LK cS bz eg,λj y hj hy=>?_,()};rw[iI,iA (λz=>?_)]
     ·show c0 j y (by lia) hy
     ·have e1:(W.map (·.1))[j]?=some x.1:=by rw[ig,hy,<-z];rfl
      have e2:(W.map (·.1))[i]?=some x.1:=by rw[ig,L];rfl
      have:=(I_ (d_.mp e1).1 ej).mp (e1.trans e2.symm);lia
    ·rintro σ H5⟨b0,X,m5,v4,v5,o5,G,J,b8,r,u,aa,ci,cS,_,rfl⟩;rw[ku (by lia)]at J b8;show U () (q lb b0 X m5 H5 ((mH.of I).trans o5) G J b8 dT aa (fJ.trans (fJ.refl H tk) r λl hl=>I.free hl) u (by lia) (by lia))
end
abbrev gd(ns:OQ)(k:Nat):Int:=ns.getD k 0
noncomputable def Ag(c gs:OQ):Nat->Nat|0=>0|n+1=>if gd c (n+1)*(gd gs (Ag c gs n)+1)>gd c (Ag c gs n)*(gd gs (n+1)+1)then n+1 else Ag c gs n
theorem xg(c gs:OQ):∀n,Ag c gs n<=n
 |0=>e_ _|n+1=>by
  have:=xg c gs n;unfold Ag
  split<;>lia
def deal(c:OQ):Nat->List Int|0=>List.replicate c.length 0|n+1=>(deal c n).set (Ag c (deal c n) (c.length-1)) (gd (deal c n) (Ag c (deal c n) (c.length-1))+1)
theorem mD(c:OQ):∀n,(deal c n).length=c.length|0=>by simp[deal]|n+1=>by rw[deal,D_,mD c n]
def JQ(ns:OQ)(i j:Nat)(v:Int)(h:i<ns.length):gd (ns.set i v) j=if i=j then v else gd ns j:=by
 unfold gd;rw[ry,ry,NC]
 by_cases e:i=j
 ·rw[i_ e,i_ e];simp[h]
 ·rw[iA e,iA e]
theorem xh(c:OQ):∀n k,0<=gd (deal c n) k/\gd (deal c n) k<=n
 |0,k=>by
  have e:gd (deal c 0) k=0:=by
   unfold gd deal;rw[ry,List.getElem?_replicate]
   split<;>rfl
  rw[e];show{Oa _,by show Oa _}|n+1,k=>by
  have b:=xh c n
  by_cases h0:c.length=0
  ·have:(deal c (n+1)).length=0:=by rw[mD,h0]
   have e:=rr.mp this;rw[e];show{Oa _,by change(0:Int)<=_;show kl _}
  ·have d:=xg c (deal c n) (c.length-1);rw[deal,JQ _ _ _ _ (by rw[mD];lia)]
   split
   ·have:=b (Ag c (deal c n) (c.length-1));lia
   ·have:=b k;lia
inductive II(K:OF)(vs:List V)(H:Hp)(Q:VK)(_E:XK):Prop|mk(wt gl:Addr)(ws gs:OQ)(_:vs=[.ref wt,.ref gl])(_:aS K H wt (ws.map V.int))(_:aW K H gl (gs.map V.int))(_:gs.length=ws.length)(_:0<ws.length)(_:ws.length<=4)(_:(∀k,0<=gd gs k/\gd gs k<=2000))(_:Q (.int (Ag ws gs (ws.length-1):Nat)) H)
inductive F9(K:OF)(vs:List V)(H:Hp)(Q:VK)(_E:XK):Prop|mk(n:Nat)(wt:Addr)(ws:OQ)(_:vs=[.int n,.ref wt])(_:n<=2000)(_:aS K H wt (ws.map V.int))(_:0<ws.length)(_:ws.length<=4)(_:∀t H',ao H H'->H' t=some (.tup ((deal ws n).map V.int))->Q (.ref t) H')
section
def yp(T:Txt K mg a):aT P w K mg base d0 1 a.kx.x a.kx.d ["weights","given"] (II K):=by
 show T.kx.ok jt λl A outer s H t Q E u h=>?_
 ·obtain⟨m,gl,b,gs,rfl,c,g,j,y,l4,k,q⟩:=h;show{_,(ah (bn 2 jt.nd af) (ah (eO o0 () (vH () T.eV (O af (O (aA (aI K ()) (by rfl) T.bE L2.aJ (O (Y 0) ae)) ae))) (oK 3 jt.nd) (ai (aK (aC pE (ay gQ (cA K (Y 0) (Y 3)) (ay bP (gG K (Y 1) (Y 2)) af)) (ay gQ (cA K (Y 0) (Y 2)) (ay bP (gG K (Y 1) (Y 3)) af)) (aE _)) (ai (bn 2 jt.nd (Y 3))) aD))) (ai (az (Y 2))))),?_}
  show U () {_,b.length,(),.inr {_,c,by simp},_,U () {{by decide,by decide,by show kl _,by lia},?_}};show iP (lo:=1) (n:=((b.length:Int)-1).toNat) (λi f H'=>H=H'/\∃v,f=[some (.ref m),some (.ref gl),some (.int (Ag b gs i:Nat)),v]) {(),_,()} ?_ ?_
  ·rintro i f _ hi⟨rfl,v,rfl⟩;have hd:=xg b gs i;have o:0<=gs.getD (Ag b gs i) 0/\gs.getD (Ag b gs i) 0<=2000:=k (Ag b gs i);have p:0<=gs.getD (i+1) 0/\gs.getD (i+1) 0<=2000:=k (i+1);have r:((1:Int)+(i:Int))=((i+1:Nat):Int):=by lia
   show U () (U () (rX c (nq (by show kl _) (by omega)) (U () (U () (rX g (nq (by show kl _) (by omega)) (r2 (r2 ?_)))))));show{.inr {?_,?_},?_}
   ·simp only[pu];lia
   ·simp only[pu];lia
   show U () (U () (rX c (nq (by show kl _) (by omega)) (U () (U () (rX g (nq (by show kl _) (by omega)) (r2 (r2 ?_)))))));rw[r];show{.inr {?_,?_},?_}
   ·simp only[pu];lia
   ·simp only[pu];lia
   show r2 (U () ?_);simp only[pu];show lD (λh=>?_) (λh=>?_)
   ·show U () {(),some (.int ((i+1:Nat):Int)),?_};rw[Ag,i_ h];rfl
   ·show{(),some (.int ((i+1:Nat):Int)),?_};rw[Ag,iA h];rfl
  ·rintro f _⟨rfl,v,rfl⟩;have e:((b.length:Int)-1).toNat=b.length-1:=by lia
   rw[e];show U () q
def DV(T:Txt K mg a):aT P w K mg base d0 2 a.wa.x a.wa.d ["total","weights"] (F9 K):=by
 show T.wa.ok oX λC A outer s H N Q E D h=>?_
 ·obtain⟨n,f,b,rfl,hn,y,F,l4,q⟩:=h;show{_,(ah (bn 2 oX.nd (ay DP (bf (O af ae)) (aA (aI K ()) (by rfl) T.bE L2.aJ (O (Y 1) ae)))) (ah (eO o0 () (dA () T.eV (O (Y 0) ae)) (oK 3 oX.nd) (ah (bn 4 oX.nd (pc T.kx (yp T) D (O (Y 1) (O (Y 2) ae)))) (ai (gP (ay bP (gG K (Y 2) (Y 4)) af) (i9 (Y 2) (Y 4) Dz))))) (ai (az (dB (fq K ()) (by rfl) T.d9 L2.bZ (O (Y 2) ae)))))),?_}
  show{ls (),λl z=>?_};have j:aS K (aH H l (.lst [.int 0])) f (b.map V.int):=ao.tseq (ak (ao.refl H) z) y;show U () {_,b.length,(),.inr {_,j,by simp},l,_,U () {(),ag,by show kl _,by lia,cG (by simp;lia),λg hg=>?_}};have G:ao H (aH (aH H l (.lst [.int 0])) g (.lst (List.replicate (b.length:Int).toNat [V.int 0]).flatten)):=ak (ak (ao.refl H) z) hg;have I:(List.replicate (b.length:Int).toNat [V.int 0]).flatten=(deal b 0).map V.int:=by
   rw[pu,deal,List.map_replicate];generalize b.length=m
   induction m with|zero=>rfl|succ m J=>rw[sD,MQ,J,sD];rfl
  have o:H g=none:=(Ju hg).2;show U () {(n:Int),(),by show kl _,by lia,?_};show iP (lo:=0) (n:=(n:Int).toNat) (λi p H'=>ao H H'/\H' g=some (.lst ((deal b i).map V.int))/\(Kv λr u=>p=[some (.int n),some (.ref f),some (.ref g),r,u])) {G,by rw[ag,I],_,_,()} ?_ ?_
  ·rintro i p L hi⟨e,c,r,u,rfl⟩;have B:=xh b i;have hd:=xg b (deal b i) (b.length-1);have v:=mD b i;show U () (U () {f,g,b,deal b i,(),ao.tseq e y,aW.of c,v,F,l4,λk=>{(B k).1,by have:=(B k).2;lia},?_});show U () (U () (rX (aW.of c) (nq (by show kl _) (by lia)) (r2 ?_)));show U () (U () {g,_,_,U () {(),c,G5 (by show kl _) (by simp;lia),?_}});show{bu e o,?_,_,_,()};rw[ag];simp only[pu];rw[yE];rfl
  ·rintro p L⟨e,c,r,u,rfl⟩;show U () {g,U () (.inl {aW.of c,λt M=>?_})};show q t _ (ak e M) ag
end
inductive xP(C:Addr)(vs:List V)(H:Hp)(Q:VK)(_E:XK):Prop|mk(t dx ar ru sh:Addr)(hm:Str)(_:vs=[.ref t,.str hm,.ref ar,.ref ru,.ref sh])(_:H t=some (.ins C dx []))(_:∀(ba:Addr)H',H ba=none->(∀b o,H b=some o->b≠t->H' b=some o)->H' t=some (.ins C dx [("home",.str hm),("arms",.ref ar),("rule",.ref ru),("shuts",.ref sh),("paused",.bl false),("closed",.bl false),("barred",.ref ba)])->H' ba=some (.dK [])->Q .non H')
section
def rY(T:Txt K mg a):aT P w K mg base d0 1 a.eh.x a.eh.d ["self","home","arms","rule","shuts"] (xP a.fX):=by
 show T.eh.ok rN λj A outer s H l Q E m h=>?_
 ·obtain⟨t,dx,ar,ru,sh,hm,rfl,k,q⟩:=h;show{_,(ah (cE K () (Y 0) (Y 1)) (ah (cE K () (Y 0) (Y 2)) (ah (cE K () (Y 0) (Y 3)) (ah (cE K () (Y 0) (Y 4)) (ah (cE K () (Y 0) dU) (ah (cE K () (Y 0) dU) (ai (cE K () (Y 0) fP)))))))),?_}
  show U () (U () {t,_,dx,U () {k,T.bC,T.jS,by simp,?_}});rw[show gy "home" (V.str hm) []=([("home",V.str hm)]:List (Str×V))from ()];show U () (U () {t,_,dx,U () {ag,T.bC,T.fQ,by simp,?_}});rw[gZ,show gy "arms" (V.ref ar) [("home",V.str hm)]=([("home",V.str hm),("arms",V.ref ar)]:List (Str×V))from ()];show U () (U () {t,_,dx,U () {ag,T.bC,T.nS,by simp,?_}});rw[gZ,show gy "rule" (V.ref ru) [("home",V.str hm),("arms",V.ref ar)]=([("home",V.str hm),("arms",V.ref ar),("rule",V.ref ru)]:List (Str×V))from ()];show U () (U () {t,_,dx,U () {ag,T.bC,T.mq,by simp,?_}});rw[gZ,show gy "shuts" (V.ref sh) [("home",V.str hm),("arms",V.ref ar),("rule",V.ref ru)]=([("home",V.str hm),("arms",V.ref ar),("rule",V.ref ru),("shuts",V.ref sh)]:List (Str×V))from ()];show U () {t,_,dx,U () {ag,T.bC,T.iB,by simp,?_}};rw[gZ,show gy "paused" (V.bl false) [("home",V.str hm),("arms",V.ref ar),("rule",V.ref ru),("shuts",V.ref sh)]=([("home",V.str hm),("arms",V.ref ar),("rule",V.ref ru),("shuts",V.ref sh),("paused",V.bl false)]:List (Str×V))from ()];show U () {t,_,dx,U () {ag,T.bC,T.iC,by simp,?_}};rw[gZ,show gy "closed" (V.bl false) [("home",V.str hm),("arms",V.ref ar),("rule",V.ref ru),("shuts",V.ref sh),("paused",V.bl false)]=([("home",V.str hm),("arms",V.ref ar),("rule",V.ref ru),("shuts",V.ref sh),("paused",V.bl false),("closed",V.bl false)]:List (Str×V))from ()];showλba c=>?_;have g:t≠ba:=λz=>by rw[<-z,ag]at c;cases c
  show U () {t,_,dx,U () {by rw[aq g];show ag,T.bC,T.iD,by simp,?_}};rw[show gy "barred" (V.ref ba) [("home",V.str hm),("arms",V.ref ar),("rule",V.ref ru),("shuts",V.ref sh),("paused",V.bl false),("closed",V.bl false)]=([("home",V.str hm),("arms",V.ref ar),("rule",V.ref ru),("shuts",V.ref sh),("paused",V.bl false),("closed",V.bl false),("barred",V.ref ba)]:List (Str×V))from ()];have f:H ba=none:=by rw[aq (o8 g)]at c;show c
  show q ba _ f (λb o e i=>?_) ag (by rw[aq (o8 g)];show ag);rw[aq i,aq (aG e f),aq i];show e
end
inductive xQ(P:OK)(w:World)(K:OF)(C D:Addr)(vs:List V)(H:Hp)(Q:VK)(_E:XK):Prop|mk(t dx:Addr)(z:Int)(n:Nat)(_:vs=[.ref t,.int z,.int n])(_:H t=some (.ins C dx []))(_:∀(tb od td iu:Addr)H',H tb=none->H od=none->H td=none->H iu=none->od≠iu->(∀b o,H b=some o->b≠t->H' b=some o)->H' t=some (.ins C dx [("slope",.int z),("table",.ref tb),("inside",.ref iu)])->eX P w K D H' tb od td n [] [] []->H' iu=some (.dK [])->Q .non H')
section
def r9(T:Txt K mg a):aT P w K mg base d0 3 a.eC.x a.eC.d ["self","slope","many"] (xQ P w K a.fw a.bQ):=by
 show T.eC.ok rP λZ A outer s H vs Q E hr h=>?_
 ·obtain⟨t,dx,z,n,rfl,hT,q⟩:=h;show{_,(ah (cE K () (Y 0) (Y 1)) (ah (cE K () (Y 0) (sE T.Ee ((rZ (P:=P) (w:=w) T).mono (by decide)) hr () T.GW T.eA.b .nil bj (O (Y 2) ae))) (ai (cE K () (Y 0) fP)))),?_}
  show U () (U () {t,_,dx,U () {hT,T.cr,T.je,by simp,?_}});rw[show gy "slope" (V.int z) []=([("slope",V.int z)]:List (Str×V))from ()];have f1:∀b o,H b=some o->b≠t->aH H t (.ins a.fw dx [("slope",V.int z)]) b=some o:=λb o e m=>by rw[aq m];show e
  have g:aH H t (.ins a.fw dx [("slope",V.int z)]) t=some (.ins a.fw dx [("slope",V.int z)]):=ag;have y:∀b,aH H t (.ins a.fw dx [("slope",V.int z)]) b=none->H b=none:=λb e=>by
   by_cases h:b=t
   ·rw[h,ag]at e;cases e
   ·rw[aq h]at e;show e
  generalize aH H t (.ins a.fw dx [("slope",V.int z)])=k at f1 g y⊢;show U () (λc ty i G I=>?_);have f2:∀b o,k b=some o->aH (aH k ty (.own c)) c (.ins a.bQ ty []) b=some o:=λb o e=>by rw[aq (aG e i),aq (aG e G)];show e
  have B:aH (aH k ty (.own c)) c (.ins a.bQ ty []) c=some (.ins a.bQ ty []):=ag;have C:aH (aH k ty (.own c)) c (.ins a.bQ ty []) ty=some (.own c):=by rw[aq I];show ag
  generalize aH (aH k ty (.own c)) c (.ins a.bQ ty [])=H2 at f2 B C⊢;show{c,ty,n,(),B,C,λW X D p r f3 f=>{(),?_}};have n1:∀b,H2 b=none->k b=none:=λb e=>by cases z:k b with|none=>rfl|some o=>rw[f2 b o z]at e;cases e
  have u:∀b o,k b=some o->D b=some o:=λb o e=>f3 b o (f2 b o e) (aG e i);have J:=u _ _ g;show U () {t,_,dx,U () {J,T.cr,T.gF,by simp,?_}};rw[show gy "table" (V.ref c) [("slope",V.int z)]=([("slope",V.int z),("table",V.ref c)]:List (Str×V))from ()];showλv l=>?_;have L:t≠v:=λz=>by rw[<-z,ag]at l;cases l
  have j:D v=none:=by rw[aq (o8 L)]at l;show l
  show U () {t,_,dx,U () {by rw[aq L];show ag,T.cr,T.bT,by simp,?_}};rw[show gy "inside" (V.ref v) [("slope",V.int z),("table",V.ref c)]=([("slope",V.int z),("table",V.ref c),("inside",V.ref v)]:List (Str×V))from ()];have n3:∀b,D b=none->k b=none:=λb e=>by cases z:k b with|none=>rfl|some o=>rw[u b o z]at e;cases e
  have F:∀b o,D b=some o->b≠t->aH (aH (aH D t (.ins a.fw dx [("slope",V.int z),("table",V.ref c)])) v (.dK [])) t (.ins a.fw dx [("slope",V.int z),("table",V.ref c),("inside",V.ref v)]) b=some o:=λb o e m=>by rw[aq m,aq (aG e j),aq m];show e
  have M:c≠t:=λz=>by rw[z,g]at i;cases i
  have N:W≠t:=λz=>by rw[z,f2 _ _ g]at p;cases p
  have R:X≠t:=λz=>by rw[z,f2 _ _ g]at r;cases r
  show q c W X v _ (y _ i) (y _ (n1 _ p)) (y _ (n1 _ r)) (y _ (n3 _ j)) (aG f.own j) (λb o e m=>F b o (u b o (f1 b o e m)) m) ag ?_ (by rw[aq (o8 L)];show ag);obtain⟨S,hI⟩:=f.ins;show{{S,F _ _ hI M},F _ _ f.own N,F _ _ f.tak R,λx hx=>(by cases hx),.nil}
end
inductive xR(C:Addr)(vs:List V)(H:Hp)(Q:VK)(_E:XK):Prop|mk(t dx:Addr)(z sa:Int)(_:vs=[.ref t,.int z,.int sa])(_:H t=some (.ins C dx []))(_:(2<=z/\z<=997))(_:(∀i:Nat,2+(i:Int)<z->z%(2+(i:Int))≠0))(_:(0<=sa/\sa<=cI))(_:∀(ln tn ci dl:Addr)H',H ln=none->H tn=none->H ci=none->H dl=none->ln≠tn->ln≠ci->tn≠ci->(∀b o,H b=some o->b≠t->H' b=some o)->H' t=some (.ins C dx [("own_prime",.int z),("own_salt",.int sa),("layer_named",.ref ln),("trial_named",.ref tn),("came_into",.ref ci),("deeds",.ref dl)])->H' ln=some (.dK [])->H' tn=some (.dK [])->H' ci=some (.dK [])->H' dl=some (.lst [])->Q .non H')
def uI(t:Addr)(H H':Hp):Prop:=∀b o,H b=some o->b≠t->H' b=some o
def uI.no{t a:Addr}(h:uI t H H')(e:H' a=none)(n:a≠t):H a=none:=by cases z:H a with|none=>rfl|some o=>rw[h a o z n]at e;cases e
@[elab_as_elim]theorem fM{H:Hp}{a:Addr}{o:HO}{motive:Hp->Prop}(c:H a=none)(h:∀H',ao H H'->H' a=some o->motive H'):motive (aH H a o):=h _ (ak (ao.refl H) c) ag
@[elab_as_elim]theorem BJ{H:Hp}{t:Addr}{o:HO}{motive:Hp->Prop}(h:∀H',uI t H H'->H' t=some o->motive H'):motive (aH H t o):=h _ (λ_ _ e n=>by rw[aq n];show e) ag
section
def se(T:Txt K mg a):aT P w K mg base d0 5 a.eE.x a.eE.d ["self","prime","salt"] (xR a.cK):=by
 show T.eE.ok rQ λaa A outer s H vs Q E hr h=>?_
 ·obtain⟨t,dx,z,sa,rfl,k,h1,h2,h3,q⟩:=h;show{_,(ah (aY (pc T.gn (uc T) hr (O (Y 1) (O (Y 2) ae)))) (ah (cE K () (Y 0) (Y 1)) (ah (cE K () (Y 0) (Y 2)) (ah (cE K () (Y 0) fP) (ah (cE K () (Y 0) fP) (ah (cE K () (Y 0) fP) (ai (cE K () (Y 0) (bf ae))))))))),?_}
  show U () (U () {z,sa,(),h1,h2,h3,λH0 v=>?_});show U () (U () {t,_,dx,U () {v _ _ k,T.aF,T.cD,by simp,?_}});show BJ λH1 o1 t1=>?_;show U () (U () {t,_,dx,U () {t1,T.aF,T.jF,(show 1<1000 by decide),?_}});show BJ λH2 o2 B=>?_;showλln g=>fM g λH3 C e3=>?_;show U () {t,_,dx,U () {C _ _ B,T.aF,T.a9,(show 2<1000 by decide),?_}};show BJ λl m D=>?_;showλtn f=>fM f λH5 F e5=>?_;show U () {t,_,dx,U () {F _ _ D,T.aF,T.bg,(show 3<1000 by decide),?_}};show BJ λp G I=>?_;showλJ c=>fM c λH7 L e7=>?_;show U () {t,_,dx,U () {L _ _ I,T.aF,T.c6,(show 4<1000 by decide),?_}};show BJ λr M N=>?_;show{ls (),λdl i=>fM i λH9 R e9=>?_};show U () {t,_,dx,U () {R _ _ N,T.aF,T.mw,(show 5<1000 by decide),?_}};show BJ λS V ta=>?_;have n1:ln≠t:=λy=>by rw[y,B]at g;cases g
  have n2:tn≠t:=λy=>by rw[y,D]at f;cases f
  have n3:J≠t:=λy=>by rw[y,I]at c;cases c
  have n4:dl≠t:=λy=>by rw[y,N]at i;cases i
  have W:uI t H H2:=λb o e n=>o2 b o (o1 b o (v b o e) n) n;have p4:uI t H3 l:=m;have X:uI t H l:=λb o e n=>m b o (C b o (W b o e n)) n;have Z:uI t l p:=λb o e n=>G b o (F b o e) n;have u:uI t p r:=λb o e n=>M b o (L b o e) n;have j:uI t r S:=λb o e n=>V b o (R b o e) n;have k6:uI t H p:=λb o e n=>Z b o (X b o e n) n;have k8:uI t H r:=λb o e n=>u b o (k6 b o e n) n;have l4:=m _ _ e3 n1;have l6:=Z _ _ l4 n1;have l8:=u _ _ l6 n1;have m6:=G _ _ e5 n2;have m8:=u _ _ m6 n2;show q ln tn J dl S (W.no g n1) (X.no f n2) (k6.no c n3) (k8.no i n4) (aG l4 f) (aG l6 c) (aG m6 c) (λb o e n=>j b o (k8 b o e n) n) ta (j _ _ l8 n1) (j _ _ m8 n2) (j _ _ (M _ _ e7 n3) n3) (V _ _ e9 n4)
end
def AR(c:Nat):Int:=Txt.find gH {#[c]}
def w4(m:Int)(cs:OO):Int:=cs.foldl (λm c=>1009*m+AR c+1) m
def Eh{m:Int}{cs:OO}{i c:Nat}(h:cs[i]?=some c):w4 m (cs.take (i+1))=1009*w4 m (cs.take i)+AR c+1:=by unfold w4;rw[A_,h,MP];rfl
def Jq{c:Nat}(h:c∈gH.cps.toList):∃i r,Builtin.Str.occurrences gH {#[c]} 0 gH.length 1=i::r/\AR c=(i:Nat):=by have e:=StrLaws.found_one gH c;rw[m_ h]at e;cases q:Builtin.Str.occurrences gH {#[c]} 0 gH.length 1 with|nil=>rw[q]at e;cases e|cons i r=>show{i,r,(),?_};unfold AR Txt.find;rw[q]
def tT(p m sl:Int)(x:Str):Int:=if sl=p then w4 m x.cps.toList%(p*p)%p else(w4 m x.cps.toList%(p*p)/p+sl*(w4 m x.cps.toList%(p*p)%p))%p
inductive FW(vs:List V)(H:Hp)(Q:VK)(_E:XK):Prop|mk(p:_)(m:_)(x:_)(_:vs=[.int p,.int m,.str x])(_:uP x)(_:(2<=p/\p<=997))(_:∀t,H t=none->Q (.ref t) (aH H t (.tup [.int (w4 m x.cps.toList%(p*p)/p),.int (w4 m x.cps.toList%(p*p)%p)])))
inductive FY(K:OF)(vs:List V)(H:Hp)(Q:VK)(_E:XK):Prop|mk(t:Addr)(p s x y:Int)(_:vs=[.int p,.int s,.ref t])(_:aS K H t [.int x,.int y])(_:0<p)(_:(0<=s/\s<=1000))(_:Q (.int (if s=p then y else(x+s*y)%p)) H)
inductive BA(a:f8)(vs:List V)(H:Hp)(Q:VK)(_E:XK):Prop|mk(h lo dx dl:Addr)(fs gs:List (Str×V))(p m sl:Int)(x:Str)(_:vs=[.ref h,.ref lo,.str x])(_:H h=some (.ins a.cK dx fs))(_:fs.lookup ("own_prime":Str)=some (V.int p))(_:fs.lookup ("own_salt":Str)=some (V.int m))(_:H lo=some (.ins a.fw dl gs))(_:gs.lookup ("slope":Str)=some (V.int sl))(_:uP x)(_:(2<=p/\p<=997))(_:(0<=sl/\sl<=1000))(_:∀H',ao H H'->Q (.int (tT p m sl x)) H')
section
def yn(T:Txt K mg a):aT P w K mg base d0 1 a.km.x a.km.d ["p","salt","guest"] FW:=by
 show T.km.ok jr λg A outer s H l Q E n h=>?_
 ·obtain⟨p,m,x,rfl,hg,⟨b,o⟩,q⟩:=h;show{_,(ah (bn 3 jr.nd (Y 1)) (ah (eO o0 () (DL (Y 2)) (oK 4 jr.nd) (ai (bn 3 jr.nd (ay bP (ay bP (ay gQ (ck T.Hm ()) (Y 3)) (ja K () PySem.F.plainAttrs_str PySem.F.slot_str_index PySem.F.type_str_index Ec (ck T.jV ()) (O (Y 4) ae))) af)))) (ai (az (aA y9 (by rfl) T.Eb L2.zc (O (ay aU (Y 3) (ay gQ (Y 0) (Y 0))) (O (Y 0) ae))))))),?_}
  show U () (U () {x,(),?_});show He (λi e H'=>H=H'/\∃v,e=[some (.int p),some (.int m),some (.str x),some (.int (w4 m (x.cps.toList.take i))),v]) {(),_,()} ?_ ?_
  ·rintro i c e _ hc⟨rfl,v,rfl⟩;obtain⟨j,r,k,hn⟩:=Jq (hg.cs c (g_ hc));show U () (r2 {.inl {by decide,by decide},(),U () {gH,_,j,r,(),(),k,_,U () {(),r2 {(),some (.str {#[c]}),?_}}}});rw[Eh hc,hn];rfl
  ·rintro e _⟨rfl,v,rfl⟩;rw[ku (e_ _)];have f:(0:Int)<p*p:=Int.mul_pos (by show Oo b) (by show Oo b);show U () (U () (U () (r2 {.inl {by lia,by lia},_,U () {(),f,U () {_,U () {{by show Oo b,by lia},q}}}})))
def yo(T:Txt K mg a):aT P w K mg base d0 1 a.kn.x a.kn.d ["p","slope","point"] (FY K):=by
 show T.kn.ok lR λc A outer s H f Q E g h=>?_
 ·obtain⟨t,p,s,x,y,rfl,b,e,⟨i,j⟩,q⟩:=h;show{_,(ah (bn 3 lR.nd (cA K (Y 2) af)) (ah (bn 4 lR.nd (cA K (Y 2) af)) (ah (aK (aC aQ (Y 1) (Y 0) (aE _)) (ai (az (Y 4))) aD) (ai (az (ay aU (ay bP (Y 3) (ay gQ (Y 1) (Y 4))) (Y 0))))))),?_}
  (iterate 2 show U () (rX b () ?_));show U () (U () {(),U () (kC (λh=>?_) (λh=>?_))})
  ·rw[i_ h]at q;show U () q
  ·rw[iA h]at q;show U () (U () (U () (r2 {.inl {by lia,by lia},_,U () {(),U () (r2 (e,q,))}})))
def jC(T:Txt K mg a):aT P w K mg base d0 2 a.cn.x a.cn.d ["self","layer","guest"] (BA a):=by
 show T.cn.ok o7 λf A outer s H r Q E c h=>?_
 ·obtain⟨h,lo,dx,dl,fs,gs,p,m,sl,x,rfl,b,e,g,i,j,k,l,n,q⟩:=h;show{_,(ai (az (pc T.kn (yo T) c (O (aL K () (Y 0)) (O (aL K () (Y 1)) (O (pc T.km (yn T) c (O (aL K () (Y 0)) (O (aL K () (Y 0)) (O (Y 2) ae)))) ae)))))),?_};show U () {h,_,dx,_,U () {b,T.aF,T.cD,e,U () {lo,_,dl,_,U () {i,T.cr,T.je,j,U () {h,_,dx,_,U () {b,T.aF,T.cD,e,U () {h,_,dx,_,U () {b,T.aF,T.jF,g,U () {p,m,x,(),k,l,λt o=>?_}}}}}}}}};show{t,p,sl,_,_,(),aS.of ag,by lia,n,q _ (ak (ao.refl H) o)}
end
abbrev cQ(x y:Str):bY:=.inr [.inr x,.inr y]
structure cb where
 nm:Str
 sl:Int
 S:AS
 ins:List (Str×Str×Str)
structure du where
 nm:Str
 home:Str
 arms:List Str
 rule:Ru
 shuts:List Str
 pau:Bool
 clo:Bool
 bar:List Str
structure bq where
 p:Nat
 salt:Int
 las:List cb
 trs:List du
 came:List (Str×List (Str×Str))
structure ZS where
 G:Ro->Addr
 dx:Ro->Addr
 cv:List (bK×V)ds:List V
 iv:Nat->List (bK×V)ow:Nat->List (bK×V)tk:Nat->List gt
 ar:Nat->Addr
 ru:Nat->V
 sh:Nat->Addr
def jn:List Str->(Nat->V)->List (bK×V)|[],_=>[]|n::r,f=>(.inr n,f 0)::jn r λi=>f (i+1)
noncomputable def cont(P:OK)(w:World)(a:f8)(M:bq)(Z:ZS):Ro->Option HO|.hh=>some (.ins a.cK (Z.dx .hh) [("own_prime",.int M.p),("own_salt",.int M.salt),("layer_named",.ref (Z.G .ln)),("trial_named",.ref (Z.G .tn)),("came_into",.ref (Z.G .ci)),("deeds",.ref (Z.G .dl))])|.ln=>some (.dK (jn (M.las.map cb.nm) λi=>.ref (Z.G (.lo i))))|.tn=>some (.dK (jn (M.trs.map du.nm) λi=>.ref (Z.G (.tr i))))|.ci=>some (.dK Z.cv)|.dl=>some (.lst Z.ds)|.lo i=>M.las[i]?.map λl=>.ins a.fw (Z.dx (.lo i)) [("slope",.int l.sl),("table",.ref (Z.G (.tb i))),("inside",.ref (Z.G (.iu i)))]|.iu i=>M.las[i]?.map λ_=>.dK (Z.iv i)|.tb i=>M.las[i]?.map λ_=>.ins a.bQ (Z.dx (.tb i)) [("many",.int M.p),("owners",.ref (Z.G (.od i))),("taken",.ref (Z.G (.td i)))]|.od i=>M.las[i]?.map λ_=>.dK (Z.ow i)|.td i=>M.las[i]?.map λ_=>dM P w (Z.G (.td i)) (Z.tk i)|.tr i=>M.trs[i]?.map λt=>.ins a.fX (Z.dx (.tr i)) [("home",.str t.home),("arms",.ref (Z.ar i)),("rule",Z.ru i),("shuts",.ref (Z.sh i)),("paused",.bl t.pau),("closed",.bl t.clo),("barred",.ref (Z.G (.ba i)))]|.ba i=>M.trs[i]?.map λt=>.dK (t.bar.map λg=>(.inr g,.bl true))
def bX(K:OF)(H:Hp)(iv:List (bK×V))(ins:List (Str×Str×Str)):Prop:=Paired (λ(x:bK×V)(y:Str×Str×Str)=>x.1=.inr y.1/\∃s,x.2=.ref s/\aS K H s [.str y.2.1,.str y.2.2]) iv ins
def cz(K:OF)(H:Hp)(c:List V)(e:List (Str×Str)):Prop:=Paired (λ(u:V)(y:Str×Str)=>∃s,u=.ref s/\aS K H s [.str y.1,.str y.2]) c e
def eR(K:OF)(H:Hp)(dl:Addr)(cv:List (bK×V))(cm:List (Str×List (Str×Str))):Prop:=Paired (λ(x:bK×V)(y:Str×List (Str×Str))=>x.1=.inr y.1/\∃l b,x.2=.ref l/\l≠dl/\H l=some (.lst b)/\cz K H b y.2) cv cm
structure Im(dl:Addr)(H H':Hp):Prop where
 kp:Kp H H'
 ls:∀b xs,H b=some (.lst xs)->b≠dl->H' b=some (.lst xs)
section
variable{K:OF}{H a:Hp}{dl:Addr}
theorem Im.of(h:ao H a):Im dl H a:={.of h,λb c e _=>h b _ e}
def bX.kp(e:Kp H a)(h:bX K H iv ins):bX K a iv ins:=Paired.mapP h λ_ _ q=>{q.1,q.2.imp λ_ q=>{q.1,e.tq q.2}}
def cz.kp(e:Kp H a)(h:cz K H c f):cz K a c f:=Paired.mapP h λ_ _ q=>q.imp λ_ q=>{q.1,e.tq q.2}
def eR.im(e:Im dl H a)(h:eR K H dl cv cm):eR K a dl cv cm:=Paired.mapP h λ_ _ q=>{q.1,q.2.imp λ_ q=>q.imp λ_ q=>{q.1,q.2.1,e.ls _ _ q.2.2.1 q.2.1,q.2.2.2.kp e.kp}}
def fE.im(e:Im dl H a)(n:∀x∈tk,x.2.2≠.ref dl)(h:fE H tk m):fE a tk m:=Paired.mapM h λx b _ q=>{q.1,q.2.1,q.2.2.imp λ_ q=>{q.1,e.ls _ _ q.2 λz=>n x b (by rw[q.1,z])}}
end
structure bx(P:OK)(w:World)(K:OF)(a:f8)(H:Hp)(M:bq)(Z:ZS):Prop where
 inj:∀r r' o o',cont P w a M Z r=some o->cont P w a M Z r'=some o'->Z.G r=Z.G r'->r=r'
 at_:∀r o,cont P w a M Z r=some o->H (Z.G r)=some o
 seats:∀i l,M.las[i]?=some l->bX K H (Z.iv i) l.ins
 trs:∀i t,M.trs[i]?=some t->aS K H (Z.ar i) (t.arms.map V.str)/\dS K H t.rule (Z.ru i)/\aS K H (Z.sh i) (t.shuts.map V.str)tabs:∀i l,M.las[i]?=some l->eQ K H (Z.tk i)/\(∃m,fE H (Z.tk i) m/\jo M.p l.S (Z.ow i) m)/\uO (dz K H) M.p l.S (Z.ow i)/\∀x∈Z.tk i,x.2.2≠.ref (Z.G .dl)came:eR K H (Z.G .dl) Z.cv M.came
section
variable{P:OK}{w:World}{K:OF}{a:f8}{H H':Hp}{M s:bq}{Z c:ZS}
def bx.imm(h:bx P w K a H M Z)(e:cont P w a M Z r=some o)(f:∀b o,H b=some o->b≠Z.G r->H' b=some o):Im (Z.G .dl) H H':=by
 have g:=h.at_ r o e;have i:(∀d,o≠.tup d)/\(∀x y,o≠.frz x y)/\∀d,o=.lst d->r=.dl:=by
  cases r<;>simp only[cont,Option.map_eq_some_iff,Ny]at e
  case hh=>subst e;show{λ_ z=>(nomatch z),λ_ _ z=>(nomatch z),λ_ z=>(nomatch z)}
  case ln=>subst e;show{λ_ z=>(nomatch z),λ_ _ z=>(nomatch z),λ_ z=>(nomatch z)}
  case tn=>subst e;show{λ_ z=>(nomatch z),λ_ _ z=>(nomatch z),λ_ z=>(nomatch z)}
  case ci=>subst e;show{λ_ z=>(nomatch z),λ_ _ z=>(nomatch z),λ_ z=>(nomatch z)}
  case dl=>subst e;show{λ_ z=>(nomatch z),λ_ _ z=>(nomatch z),λ_ _=>()}
  all_goals obtain⟨_,_,e⟩:=e;subst e;show{λ_ z=>(nomatch z),λ_ _ z=>(nomatch z),λ_ z=>(nomatch z)}
 obtain⟨j,k,l⟩:=i;show{{λu d q=>f _ _ q λz=>?_,λu x⟨m,q⟩=>{m,f _ _ q λz=>?_}},λb d q n=>f _ _ q λz=>?_}
 ·rw[z,g]at q;show j _ (mu q)
 ·rw[z,g]at q;show k _ _ (mu q)
 ·rw[z,g]at q;show n (by rw[z,l _ (mu q)])
def bx.set(h:bx P w K a H M Z)(j:cont P w a M Z f=some C)(y:∀b o,H b=some o->b≠Z.G f->H' b=some o)(v:c.G=Z.G)(u:∀r o,cont P w a s c r=some o->(r=f/\H' (Z.G f)=some o)\/(r≠f/\cont P w a M Z r=some o))(seats:∀i l,s.las[i]?=some l->bX K H' (c.iv i) l.ins)(trs:∀i t,s.trs[i]?=some t->aS K H' (c.ar i) (t.arms.map V.str)/\dS K H' t.rule (c.ru i)/\aS K H' (c.sh i) (t.shuts.map V.str))(tabs:∀i l,s.las[i]?=some l->eQ K H' (c.tk i)/\(∃m,fE H' (c.tk i) m/\jo s.p l.S (c.ow i) m)/\uO (dz K H') s.p l.S (c.ow i)/\∀x∈c.tk i,x.2.2≠.ref (c.G .dl))(came:eR K H' (c.G .dl) c.cv s.came):bx P w K a H' s c:=by
 show{λr k o A e B g=>?_,λr o e=>?_,seats,trs,tabs,came}
 ·rw[v]at g;rcases u r o e with⟨rfl,_⟩|⟨_,q⟩<;>rcases u k A B with⟨rfl,_⟩|⟨_,d⟩
  ·rfl
  ·show h.inj _ _ _ _ j d g
  ·show h.inj _ _ _ _ q j g
  ·show h.inj _ _ _ _ q d g
 ·rw[v];rcases u r o e with⟨rfl,q⟩|⟨n,q⟩
  ·show q
  ·show y _ _ (h.at_ _ _ q) λz=>n (h.inj _ _ _ _ q j z)
def bx.trsI(h:bx P w K a H M Z)(e:Kp H H'):∀i t,M.trs[i]?=some t->aS K H' (Z.ar i) (t.arms.map V.str)/\dS K H' t.rule (Z.ru i)/\aS K H' (Z.sh i) (t.shuts.map V.str):=λi t b=>let⟨h1,h2,h3⟩:=h.trs i t b;{e.tq h1,h2.kp e,e.tq h3}
def bx.tabsI(h:bx P w K a H M Z)(e:Im (Z.G .dl) H H'):∀i l,M.las[i]?=some l->eQ K H' (Z.tk i)/\(∃m,fE H' (Z.tk i) m/\jo M.p l.S (Z.ow i) m)/\uO (dz K H') M.p l.S (Z.ow i)/\∀x∈Z.tk i,x.2.2≠.ref (Z.G .dl):=λi l d=>let⟨h1,⟨m,h2,h3⟩,h4,b⟩:=h.tabs i l d;{λx f=>eL e.kp (h1 x f),{m,h2.im e b,h3},h4.mono λ_ _ q=>eL e.kp q,b}
def bx.same(h:bx P w K a H M Z)(e:ao H H'):bx P w K a H' M Z:={h.inj,λr o q=>e _ _ (h.at_ r o q),λi l b=>(h.seats i l b).kp (.of e),h.trsI (.of e),h.tabsI (.of e),h.came.im (.of e)}
def hE{g m:Type}{l:List g}{i:Nat}{x y:g}(h:l[i]?=some x)(f:g->m)(e:f y=f x)(j:Nat):(l.set i y)[j]?.map f=l[j]?.map f:=by
 rw[NC]
 by_cases q:i=j
 ·subst q;rw[i_ (),i_ (d_.mp h).1,h];show r_ some e
 ·rw[iA q]
def eK{g m:Type}{l:List g}{i:Nat}{x y:g}(h:l[i]?=some x)(f:g->m)(e:f y=f x):(l.set i y).map f=l.map f:=J_ λj=>by rw[ig,ig];show hE h f e j
def mR{f:Type}{g:List f}{i j:Nat}{y z:f}(e:(g.set i y)[j]?=some z):(j=i/\z=y)\/(j≠i/\g[j]?=some z):=by
 rw[NC]at e
 by_cases q:i=j
 ·rw[i_ q]at e
  split at e
  ·show .inl {q.symm,(mu e).symm}
  ·cases e
 ·rw[iA q]at e;show .inr {λz=>q z.symm,e}
def yW{i:Nat}{l l':cb}(e:M.las[i]?=some l)(h1:l'.nm=l.nm)(h2:l'.sl=l.sl)(r:Ro):cont P w a {M with las:=M.las.set i l'} Z r=cont P w a M Z r:=by cases r with|ln=>show r_ (λns=>some (HO.dK (jn ns λi=>.ref (Z.G (.lo i))))) (eK e cb.nm h1)|lo j=>show hE e _ (by rw[h2]) j|iu j=>show hE (y:=l') e _ () j|tb j=>show hE (y:=l') e _ () j|od j=>show hE (y:=l') e _ () j|td j=>show hE (y:=l') e _ () j|_=>rfl
def Fc{i:Nat}{t e:du}(f:M.trs[i]?=some t)(h1:e.nm=t.nm)(r:Ro)(h2:r=.tr i->e.home=t.home/\e.pau=t.pau/\e.clo=t.clo)(h3:r=.ba i->e.bar=t.bar):cont P w a {M with trs:=M.trs.set i e} Z r=cont P w a M Z r:=by
 cases r with|tn=>show r_ (λns=>some (HO.dK (jn ns λi=>.ref (Z.G (.tr i))))) (eK f du.nm h1)|tr j=>
  by_cases q:j=i
  ·subst q;obtain⟨a1,b,d⟩:=h2 ();show hE f _ (by rw[a1,b,d]) j
  ·change((M.trs.set i e)[j]?).map _=_;rw[oD (λz=>q z.symm)];rfl|ba j=>
  by_cases q:j=i
  ·subst q;show hE f _ (by rw[h3 ()]) j
  ·change((M.trs.set i e)[j]?).map _=_;rw[oD (λz=>q z.symm)];rfl|_=>rfl
def cT:∀b o,H b=some o->b≠x->aH H x o' b=some o:=λb o e n=>by rw[aq n];show e
def bx.setIns(h:bx P w K a H M Z){i:Nat}{l:cb}{ins':List (Str×Str×Str)}{iv':List (bK×V)}(f:M.las[i]?=some l)(m:bX K H iv' ins'):bx P w K a (aH H (Z.G (.iu i)) (.dK iv')) {M with las:=M.las.set i {l with ins:=ins'}} {Z with iv:=λj=>if j=i then iv' else Z.iv j}:=by
 have g:cont P w a M Z (.iu i)=some (.dK (Z.iv i)):=by simp[cont,f]
 have im:=h.imm g (cT (o':=.dK iv'));show h.set g cT () (λr o e=>?_) (λj b e=>?_) (h.trsI im.kp) (λj b e=>?_) (h.came.im im)
 ·rw[yW (l':={l with ins:=ins'}) f () ()]at e
  by_cases d:r=.iu i
  ·subst d;show .inl {(),?_};rw[ag,<-e];simp[cont,f]
  ·show .inr {d,?_};rw[<-e];cases r with|iu j=>change _=M.las[j]?.map λ_=>HO.dK (if j=i then iv' else Z.iv j);rw[iA λz=>d (by rw[z])];rfl|_=>rfl
 ·rcases mR e with⟨rfl,rfl⟩|⟨n,q⟩
  ·change bX K _ (if j=j then iv' else Z.iv j) ins';rw[i_ ()];show m.kp im.kp
  ·change bX K _ (if j=i then iv' else Z.iv j) b.ins;rw[iA n];show(h.seats j b q).kp im.kp
 ·rcases mR e with⟨rfl,rfl⟩|⟨n,q⟩
  ·show h.tabsI im _ l f
  ·show h.tabsI im j b q
def bx.setTr(h:bx P w K a H M Z){i:Nat}{t t':du}{r0:Ro}{o':HO}(f:M.trs[i]?=some t)(h1:t'.nm=t.nm)(h2:t'.arms=t.arms)(h3:t'.rule=t.rule)(h4:t'.shuts=t.shuts)(g:(r0=.tr i/\t'.bar=t.bar)\/(r0=.ba i/\t'.home=t.home/\t'.pau=t.pau/\t'.clo=t.clo))(l:cont P w a {M with trs:=M.trs.set i t'} Z r0=some o'):bx P w K a (aH H (Z.G r0) o') {M with trs:=M.trs.set i t'} Z:=by
 obtain⟨d,k⟩:∃d,cont P w a M Z r0=some d:=by rcases g with⟨rfl,_⟩|⟨rfl,_⟩<;>show{_,by simp only[cont,f];rfl}
 have im:=h.imm k (cT (o':=o'));show h.set k cT () (λr o e=>?_) (λj m e=>(h.seats j m e).kp im.kp) (λj p e=>?_) (h.tabsI im) (h.came.im im)
 ·by_cases b:r=r0
  ·subst b;rw[l]at e;show .inl {(),by rw[ag];show e}
  ·show .inr {b,?_};rw[<-e];show(Fc f h1 r (λz=>?_) λz=>?_).symm
   ·rcases g with⟨q,_⟩|⟨_,q⟩
    ·show absurd (z.trans q.symm) b
    ·show q
   ·rcases g with⟨_,q⟩|⟨q,_⟩
    ·show q
    ·show absurd (z.trans q.symm) b
 ·rcases mR e with⟨rfl,rfl⟩|⟨n,q⟩
  ·rw[h2,h3,h4];show h.trsI im.kp _ t f
  ·show h.trsI im.kp j p q
def bx.deed(h:bx P w K a H M Z)(d:V):bx P w K a (aH H (Z.G .dl) (.lst (Z.ds++[d]))) M {Z with ds:=Z.ds++[d]}:=by
 have f:cont P w a M Z .dl=some (.lst Z.ds):=();have im:=h.imm f (cT (o':=.lst (Z.ds++[d])));show h.set f cT () (λr o e=>?_) (λj g e=>(h.seats j g e).kp im.kp) (h.trsI im.kp) (h.tabsI im) (h.came.im im)
 by_cases b:r=.dl
 ·subst b;show .inl {(),by rw[ag];show e}
 ·show .inr {b,?_};rw[<-e];cases r with|dl=>show absurd () b|_=>rfl
def bx.setCame(h:bx P w K a H M Z)(hc:eR K H (Z.G .dl) f g):bx P w K a (aH H (Z.G .ci) (.dK f)) {M with came:=g} {Z with cv:=f}:=by
 have d:cont P w a M Z .ci=some (.dK Z.cv):=();have im:=h.imm d (cT (o':=.dK f));show h.set d cT () (λr o e=>?_) (λj i e=>(h.seats j i e).kp im.kp) (h.trsI im.kp) (h.tabsI im) (hc.im im)
 by_cases b:r=.ci
 ·subst b;show .inl {(),by rw[ag];show e}
 ·show .inr {b,?_};rw[<-e];cases r with|ci=>show absurd () b|_=>rfl
end
theorem wY:∀(ns:OL)(x:Str)(f:Nat->V),jn (ns++[x]) f=jn ns f++[(.inr x,f ns.length)]|[],_,_=>()|n::r,x,f=>by change(Sum.inr n,f 0)::jn (r++[x]) _=(Sum.inr n,f 0)::(jn r _++_);rw[wY r x];rfl
theorem qw:∀{ns:OL}{f g:Nat->V},(∀i,i<ns.length->f i=g i)->jn ns f=jn ns g|[],_,_,_=>()|n::r,f,g,h=>by change(Sum.inr n,f 0)::jn r _=(Sum.inr n,g 0)::jn r _;rw[h 0 (by simp),qw (ns:=r) (f:=λi=>f (i+1)) (g:=λi=>g (i+1)) λi hi=>h (i+1) (by simpa using hi)]
theorem iJ:∀(ns:OL)(f:Nat->V),(jn ns f).length=ns.length|[],_=>()|n::r,f=>by rw[jn,oi,oi,iJ r]
theorem sG:∀{ns:OL}{f:Nat->V}{i:Nat}{x:Str},ns.Nodup->ns[i]?=some x->aX (jn ns f) (.inr x)=some (f i)
 |[],_,i,_,_,h=>by simp at h|n::r,f,0,x,_,h=>by
  have e:n=x:=by simpa using h
  show ce (by rw[e])|n::r,f,i+1,x,hn,h=>by
  have h:r[i]?=some x:=by simpa using h
  rw[NZ]at hn;have ne:n≠x:=λz=>hn.1 (by rw[z];show g_ h);change aX ((Sum.inr n,f 0)::jn r _) _=_;rw[bG λz=>ne (p5 z)];show sG hn.2 h
theorem jd:∀{ns:OL}{f:Nat->V}{x:Str},x∉ns->aX (jn ns f) (.inr x)=none|[],_,_,_=>()|n::r,f,x,h=>by change aX ((Sum.inr n,f 0)::jn r _) _=_;rw[bG λz=>h (by rw[p5 z];show mo)];show jd λz=>h (j_ _ z)
theorem wX:∀{ns:OL}{f:Nat->V}{i:Nat},(jn ns f)[i]?=ns[i]?.map λx=>(.inr x,f i)|[],_,i=>by simp[jn]|n::r,f,0=>()|n::r,f,i+1=>by change(jn r λi=>f (i+1))[i]?=_;rw[wX];simp
section
variable{P:OK}{w:World}{K:OF}{a:f8}{H c:Hp}{M:bq}{Z:ZS}
def bx.tab(h:bx P w K a H M Z)(e:M.las[i]?=some l):∃m,eX P w K a.bQ H (Z.G (.tb i)) (Z.G (.od i)) (Z.G (.td i)) M.p (Z.ow i) (Z.tk i) m/\jo M.p l.S (Z.ow i) m:=by obtain⟨h1,⟨m,h2,h3⟩,_⟩:=h.tabs i l e;show{m,{{_,h.at_ (.tb i) _ (by simp only[cont,e];rfl)},h.at_ (.od i) _ (by simp only[cont,e];rfl),h.at_ (.td i) _ (by simp only[cont,e];rfl),h1,h2},h3}
def bx.told(h:bx P w K a H M Z)(v:M.las[i]?=some l)(o:mH (Z.G (.od i)) (Z.G (.td i)) H c)(C:eX P w K a.bQ c (Z.G (.tb i)) (Z.G (.od i)) (Z.G (.td i)) M.p s f I)(L:jo M.p A s I)(N:uO (dz K H) M.p A s)(Q:fJ H (Z.tk i) f):bx P w K a c {M with las:=M.las.set i {l with S:=A}} {Z with ow:=λj=>if j=i then s else Z.ow j,tk:=λj=>if j=i then f else Z.tk j}:=by
 obtain⟨m,J,_⟩:=h.tab v;have im:Im (Z.G .dl) H c:=by
  have g:∀b ob,H b=some ob->(∀D,ob≠.dK D)->(∀φ,ob≠.ext φ)->c b=some ob:=λb ob e h1 h2=>o b ob e (λz=>by rw[z,J.own]at e;cases e;show h1 _ ()) (λz=>by rw[z,J.tak]at e;cases e;show h2 _ ())
  show{{λu O e=>g _ _ e (λ_ z=>(nomatch z)) (λ_ z=>(nomatch z)),λu x⟨E,e⟩=>{E,g _ _ e (λ_ z=>(nomatch z)) (λ_ z=>(nomatch z))}},λb O e _=>g _ _ e (λ_ z=>(nomatch z)) (λ_ z=>(nomatch z))}
 have k:∀r ob,cont P w a {M with las:=M.las.set i {l with S:=A}} {Z with ow:=λj=>if j=i then s else Z.ow j,tk:=λj=>if j=i then f else Z.tk j} r=some ob->(r=.od i/\ob=.dK s)\/(r=.td i/\ob=dM P w (Z.G (.td i)) f)\/(r≠.od i/\r≠.td i/\cont P w a M Z r=some ob):=λr ob e=>by
  rw[yW (l':={l with S:=A}) v () ()]at e;cases r with|od j=>
   by_cases q:j=i
   ·subst q;have e:(M.las[j]?.map λ_=>HO.dK (if j=j then s else Z.ow j))=some ob:=e;rw[v,i_ ()]at e;show .inl {(),(mu e).symm}
   ·have e:(M.las[j]?.map λ_=>HO.dK (if j=i then s else Z.ow j))=some ob:=e;rw[iA q]at e;show .inr (.inr {λz=>q (by injection z),λz=>(nomatch z),e})|td j=>
   by_cases q:j=i
   ·subst q;have e:(M.las[j]?.map λ_=>dM P w (Z.G (.td j)) (if j=j then f else Z.tk j))=some ob:=e;rw[v,i_ ()]at e;show .inr (.inl {(),(mu e).symm})
   ·have e:(M.las[j]?.map λ_=>dM P w (Z.G (.td j)) (if j=i then f else Z.tk j))=some ob:=e;rw[iA q]at e;show .inr (.inr {λz=>(nomatch z),λz=>q (by injection z),e})|_=>show .inr (.inr {λz=>(nomatch z),λz=>(nomatch z),e})
 have t:cont P w a M Z (.od i)=some (.dK (Z.ow i)):=by simp only[cont,v];rfl
 have B:cont P w a M Z (.td i)=some (dM P w (Z.G (.td i)) (Z.tk i)):=by simp only[cont,v];rfl
 have live:∀r ob,cont P w a {M with las:=M.las.set i {l with S:=A}} {Z with ow:=λj=>if j=i then s else Z.ow j,tk:=λj=>if j=i then f else Z.tk j} r=some ob->∃E,cont P w a M Z r=some E:=λr ob e=>by
  rcases k r ob e with⟨rfl,_⟩|⟨rfl,_⟩|⟨_,_,q⟩
  ·show{_,t}
  ·show{_,B}
  ·show{_,q}
 show{λr R ob F e T g=>?_,λr ob e=>?_,λj d e=>?_,h.trsI im.kp,λj d e=>?_,h.came.im im}
 ·obtain⟨_,q⟩:=live r ob e;obtain⟨_,U⟩:=live R F T;show h.inj _ _ _ _ q U g
 ·rcases k r ob e with⟨rfl,rfl⟩|⟨rfl,rfl⟩|⟨n1,n2,q⟩
  ·show C.own
  ·show C.tak
  ·show o _ _ (h.at_ _ _ q) (λz=>n1 (h.inj _ _ _ _ q t z)) (λz=>n2 (h.inj _ _ _ _ q B z))
 ·rcases mR e with⟨rfl,rfl⟩|⟨n,q⟩
  ·show(h.seats _ l v).kp im.kp
  ·show(h.seats j d q).kp im.kp
 ·rcases mR e with⟨rfl,rfl⟩|⟨n,q⟩
  ·change eQ K c (if j=j then f else Z.tk j)/\(∃m,fE c (if j=j then f else Z.tk j) m/\jo M.p A (if j=j then s else Z.ow j) m)/\uO (dz K c) M.p A (if j=j then s else Z.ow j)/\∀x∈(if j=j then f else Z.tk j),x.2.2≠.ref (Z.G .dl);rw[i_ (),i_ ()];show{C.keys,(I,C.lsts,L,),N.mono λ_ _ q=>eL im.kp q,λx V z=>?_};rcases Q x V with⟨y,W,e⟩|⟨X,e,hn⟩
   ·show(h.tabs _ l v).2.2.2 y W (e.trans z)
   ·rw[e]at z;cases z;rw[h.at_ .dl _ ()]at hn;cases hn
  ·change eQ K c (if j=i then f else Z.tk j)/\(∃m,fE c (if j=i then f else Z.tk j) m/\jo M.p d.S (if j=i then s else Z.ow j) m)/\uO (dz K c) M.p d.S (if j=i then s else Z.ow j)/\∀x∈(if j=i then f else Z.tk j),x.2.2≠.ref (Z.G .dl);rw[iA n,iA n];show h.tabsI im j d q
end
def vj(c e:Nat):Ro->Prop|.lo i=>i<c|.iu i=>i<c|.tb i=>i<c|.od i=>i<c|.td i=>i<c|.tr i=>i<e|.ba i=>i<e|_=>True
def ng(e:cont P w a M Z r=some o):vj M.las.length M.trs.length r:=by cases r<;>first|show trivial|(obtain⟨y,h1,_⟩:=Option.map_eq_some_iff.mp e;show(d_.mp h1).1)
def mW(P:OK)(w:World)(a:f8)(Z:ZS)(h:vj M.las.length M.trs.length r):∃o,cont P w a M Z r=some o:=by cases r<;>first|show{_,()}|(have h:_<M.las.length:=h;show{_,by simp only[cont,il h];rfl})|(have h:_<M.trs.length:=h;show{_,by simp only[cont,il h];rfl})
noncomputable def ZS.newL(Z:ZS)(n:Nat)(lo f t g h c e:Addr):ZS:={Z with
 G:=λr=>if r=.lo n then lo else if r=.iu n then f else if r=.tb n then t else if r=.od n then g else if r=.td n then h else Z.G r
 dx:=λr=>if r=.lo n then c else if r=.tb n then e else Z.dx r
 iv:=λj=>if j=n then[]else Z.iv j
 ow:=λj=>if j=n then[]else Z.ow j
 tk:=λj=>if j=n then[]else Z.tk j}
noncomputable def ZS.newT(Z:ZS)(n:Nat)(t ba dx ar:Addr)(ru:V)(sh:Addr):ZS:={Z with
 G:=λr=>if r=.tr n then t else if r=.ba n then ba else Z.G r
 dx:=λr=>if r=.tr n then dx else Z.dx r
 ar:=λj=>if j=n then ar else Z.ar j
 ru:=λj=>if j=n then ru else Z.ru j
 sh:=λj=>if j=n then sh else Z.sh j}
def oR(e:(c++[x])[j]?=some y):(j=c.length/\y=x)\/(j≠c.length/\c[j]?=some y):=by
 rcases Nat.lt_trichotomy j c.length with q|q|q
 ·rw[t6 q]at e;show .inr {m3 q,e}
 ·subst q;rw[List.getElem?_concat_length]at e;show .inl {(),(mu e).symm}
 ·rw[rm (by simp;show q)]at e;cases e
def iX(e:(c++[x])[j]?.map f=some o):(j=c.length/\o=f x)\/(j≠c.length/\c[j]?.map f=some o):=by
 obtain⟨y,h1,h2⟩:=Option.map_eq_some_iff.mp e;rcases oR h1 with⟨q,rfl⟩|⟨q,z⟩
 ·show .inl (q,h2.symm,)
 ·show .inr {q,by rw[z];show r_ some h2}
section
variable{P:OK}{w:World}{K:OF}{a:f8}{H H':Hp}{M:bq}{Z:ZS}
theorem bx.newL(h:bx P w K a H M Z)(h1:H lo=none)(h2:H iu=none)(h3:H t=none)(h4:H od=none)(h5:H td=none)(D:od≠iu)(l:∀b o,H b=some o->b≠Z.G .ln->H' b=some o)(Q:H' (Z.G .ln)=some (.dK (jn (M.las.map cb.nm) (λi=>.ref (Z.G (.lo i)))++[(.inr nm,.ref lo)])))(R:H' lo=some (.ins a.fw c [("slope",.int sl),("table",.ref t),("inside",.ref iu)]))(T:eX P w K a.bQ H' t od td M.p [] [] [])(E:lo≠t)(W:H' iu=some (.dK [])):∃s,s.G .hh=Z.G .hh/\s.G .dl=Z.G .dl/\s.ds=Z.ds/\(∀j,s.tk j=(if j=M.las.length then[]else Z.tk j)/\s.ow j=(if j=M.las.length then[]else Z.ow j))/\s.cv=Z.cv/\bx P w K a H' {M with las:=M.las++[{nm,sl,AS.new,[]}]} s/\∀r,vj (M.las.length+1) M.trs.length r->H (s.G r)=none\/(s.G r=Z.G r/\vj M.las.length M.trs.length r):=by
 obtain⟨d,O⟩:=T.ins;have im:=h.imm (r:=.ln) () l;have F:(M.las.map cb.nm).length=M.las.length:=b_ ..;have u:∀r o,cont P w a {M with las:=M.las++[{nm,sl,AS.new,[]}]} (Z.newL M.las.length lo iu t od td c d) r=some o->(H' ((Z.newL M.las.length lo iu t od td c d).G r)=some o/\(r=.lo M.las.length\/r=.iu M.las.length\/r=.tb M.las.length\/r=.od M.las.length\/r=.td M.las.length))\/((Z.newL M.las.length lo iu t od td c d).G r=Z.G r/\H' (Z.G r)=some o/\∃U,cont P w a M Z r=some U):=λr o e=>by
  cases r with|hh=>show .inr {(),l _ _ (h.at_ .hh _ e) λz=>(nomatch h.inj .hh .ln _ _ () () z),_,e}|tn=>show .inr {(),l _ _ (h.at_ .tn _ e) λz=>(nomatch h.inj .tn .ln _ _ () () z),_,e}|ci=>show .inr {(),l _ _ (h.at_ .ci _ e) λz=>(nomatch h.inj .ci .ln _ _ () () z),_,e}|dl=>show .inr {(),l _ _ (h.at_ .dl _ e) λz=>(nomatch h.inj .dl .ln _ _ () () z),_,e}|tr j=>show .inr {(),l _ _ (h.at_ (.tr j) _ e) λz=>(nomatch h.inj (.tr j) .ln _ _ e () z),_,e}|ba j=>show .inr {(),l _ _ (h.at_ (.ba j) _ e) λz=>(nomatch h.inj (.ba j) .ln _ _ e () z),_,e}|ln=>show .inr {(),?_,_,()};rw[Q,<-e];change _=some (HO.dK (jn ((M.las++[({nm,sl,AS.new,[]}:cb)]).map cb.nm) λi=>V.ref ((Z.newL M.las.length lo iu t od td c d).G (.lo i))));rw[ir,Od,wY,F];have e1:(Z.newL M.las.length lo iu t od td c d).G (.lo M.las.length)=lo:=i_ ();rw[e1,qw (f:=λi=>V.ref ((Z.newL M.las.length lo iu t od td c d).G (.lo i))) (g:=λi=>V.ref (Z.G (.lo i)))];intro i hi;rw[F]at hi;have n:∀x:Nat->Ro,(∀i j,x i=x j->i=j)->x i≠x M.las.length:=λx I z=>m3 hi (I _ _ z);change V.ref (if Ro.lo i=.lo M.las.length then lo else _)=_;rw[iA (n Ro.lo λ_ _ z=>by injection z)];rfl|lo j=>
   rcases iX e with⟨rfl,rfl⟩|⟨q,e⟩
   ·show .inl {?_,.inl ()};have B:(Z.newL M.las.length lo iu t od td c d).G (.lo M.las.length)=lo:=i_ ();have X:(Z.newL M.las.length lo iu t od td c d).G (.tb M.las.length)=t:=by simp[ZS.newL]
    have y:(Z.newL M.las.length lo iu t od td c d).G (.iu M.las.length)=iu:=by simp[ZS.newL]
    have A:(Z.newL M.las.length lo iu t od td c d).dx (.lo M.las.length)=c:=i_ ();rw[B,X,y,A];show R
   ·have e:cont P w a M Z (.lo j)=some o:=by rw[<-e];simp[cont,ZS.newL,q]
    show .inr {by simp[ZS.newL,q],l _ _ (h.at_ (.lo j) _ e) λz=>(nomatch h.inj (.lo j) .ln _ _ e () z),_,e}|iu j=>
   rcases iX e with⟨rfl,rfl⟩|⟨q,e⟩
   ·show .inl {?_,.inr (.inl ())};have y:(Z.newL M.las.length lo iu t od td c d).G (.iu M.las.length)=iu:=by simp[ZS.newL]
    have A:(Z.newL M.las.length lo iu t od td c d).iv M.las.length=[]:=i_ ();rw[y,A];show W
   ·have e:cont P w a M Z (.iu j)=some o:=by rw[<-e];simp[cont,ZS.newL,q]
    show .inr {by simp[ZS.newL,q],l _ _ (h.at_ (.iu j) _ e) λz=>(nomatch h.inj (.iu j) .ln _ _ e () z),_,e}|tb j=>
   rcases iX e with⟨rfl,rfl⟩|⟨q,e⟩
   ·show .inl {?_,.inr (.inr (.inl ()))};have X:(Z.newL M.las.length lo iu t od td c d).G (.tb M.las.length)=t:=by simp[ZS.newL]
    have y:(Z.newL M.las.length lo iu t od td c d).G (.od M.las.length)=od:=by simp[ZS.newL]
    have g5:(Z.newL M.las.length lo iu t od td c d).G (.td M.las.length)=td:=by simp[ZS.newL]
    have A:(Z.newL M.las.length lo iu t od td c d).dx (.tb M.las.length)=d:=by simp[ZS.newL]
    rw[X,y,A,g5];show O
   ·have e:cont P w a M Z (.tb j)=some o:=by rw[<-e];simp[cont,ZS.newL,q]
    show .inr {by simp[ZS.newL,q],l _ _ (h.at_ (.tb j) _ e) λz=>(nomatch h.inj (.tb j) .ln _ _ e () z),_,e}|od j=>
   rcases iX e with⟨rfl,rfl⟩|⟨q,e⟩
   ·show .inl {?_,.inr (.inr (.inr (.inl ())))};have y:(Z.newL M.las.length lo iu t od td c d).G (.od M.las.length)=od:=by simp[ZS.newL]
    have A:(Z.newL M.las.length lo iu t od td c d).ow M.las.length=[]:=i_ ();rw[y,A];show T.own
   ·have e:cont P w a M Z (.od j)=some o:=by rw[<-e];simp[cont,ZS.newL,q]
    show .inr {by simp[ZS.newL,q],l _ _ (h.at_ (.od j) _ e) λz=>(nomatch h.inj (.od j) .ln _ _ e () z),_,e}|td j=>
   rcases iX e with⟨rfl,rfl⟩|⟨q,e⟩
   ·show .inl {?_,.inr (.inr (.inr (.inr ())))};have y:(Z.newL M.las.length lo iu t od td c d).G (.td M.las.length)=td:=by simp[ZS.newL]
    have A:(Z.newL M.las.length lo iu t od td c d).tk M.las.length=[]:=i_ ();rw[y,A];show T.tak
   ·have e:cont P w a M Z (.td j)=some o:=by rw[<-e];simp[cont,ZS.newL,q]
    show .inr {by simp[ZS.newL,q],l _ _ (h.at_ (.td j) _ e) λz=>(nomatch h.inj (.td j) .ln _ _ e () z),_,e}
 have gs:∀r,(r=.lo M.las.length\/r=.iu M.las.length\/r=.tb M.las.length\/r=.od M.las.length\/r=.td M.las.length)->H ((Z.newL M.las.length lo iu t od td c d).G r)=none:=λr Y=>by rcases Y with rfl|rfl|rfl|rfl|rfl<;>simp only[ZS.newL]<;>simp[h1,h2,h3,h4,h5]
 show{Z.newL M.las.length lo iu t od td c d,(),(),(),λj=>{(),()},(),{λr r' o U e e' g=>?_,λr o e=>?_,λj C e=>?_,h.trsI im.kp,λj C e=>?_,h.came.im im},λr Y=>?_}
 ·rcases u r o e with⟨q,n⟩|⟨B,q,x,J⟩<;>rcases u r' U e' with⟨q',n'⟩|⟨L,q',x',N⟩
  ·rw[g,q']at q;have q:=mu q;rcases n with rfl|rfl|rfl|rfl|rfl<;>rcases n' with rfl|rfl|rfl|rfl|rfl<;>first|rfl|(exfalso;simp[ZS.newL]at g;first|show E g|show E g.symm|show D g|show D g.symm|(simp[cont]at e e';rw[<-e,<-e']at q;cases q))
  ·rw[L]at g;have:=h.at_ _ _ N;rw[<-g,gs r n]at this;cases this
  ·rw[B]at g;have:=h.at_ _ _ J;rw[g,gs r' n']at this;cases this
  ·rw[B,L]at g;show h.inj _ _ _ _ J N g
 ·rcases u r o e with⟨q,n⟩|⟨B,q,x,J⟩
  ·show q
  ·rw[B];show q
 ·rcases oR e with⟨rfl,rfl⟩|⟨n,q⟩
  ·change bX K H' (if M.las.length=M.las.length then[]else _) [];rw[i_ ()];show .nil
  ·change bX K H' (if j=M.las.length then[]else Z.iv j) C.ins;rw[iA n];show(h.seats j C q).kp im.kp
 ·rcases oR e with⟨rfl,rfl⟩|⟨n,q⟩
  ·change eQ K H' (if M.las.length=M.las.length then[]else _)/\(∃m,fE H' (if M.las.length=M.las.length then[]else _) m/\jo M.p AS.new (if M.las.length=M.las.length then[]else _) m)/\uO (dz K H') M.p AS.new (if M.las.length=M.las.length then[]else _)/\∀x∈(if M.las.length=M.las.length then[]else Z.tk _),x.2.2≠.ref (Z.G .dl);rw[i_ (),i_ ()];show{λx I=>(nomatch I),{[],.nil,λk=>(),λp _ _=>()},λp v _ _ z=>(nomatch z),λx I=>(nomatch I)}
  ·change eQ K H' (if j=M.las.length then[]else Z.tk j)/\(∃m,fE H' (if j=M.las.length then[]else Z.tk j) m/\jo M.p C.S (if j=M.las.length then[]else Z.ow j) m)/\uO (dz K H') M.p C.S (if j=M.las.length then[]else Z.ow j)/\∀x∈(if j=M.las.length then[]else Z.tk j),x.2.2≠.ref (Z.G .dl);rw[iA n,iA n];show h.tabsI im j C q
 ·obtain⟨o,e⟩:=mW P w a (M:={M with las:=M.las++[{nm,sl,AS.new,[]}]}) (Z.newL M.las.length lo iu t od td c d) (r:=r) (by simpa using Y);rcases u r o e with⟨_,n⟩|⟨B,_,x,J⟩
  ·show .inl (gs r n)
  ·show .inr {B,ng J}
theorem bx.newT(h:bx P w K a H M Z){nm home:Str}{arms shuts:OL}{rule:Ru}{t ba dx ar sh:Addr}{ru:V}(h1:H t=none)(h2:H ba=none)(c:∀b o,H b=some o->b≠Z.G .tn->H' b=some o)(v:H' (Z.G .tn)=some (.dK (jn (M.trs.map du.nm) (λi=>.ref (Z.G (.tr i)))++[(.inr nm,.ref t)])))(I:H' t=some (.ins a.fX dx [("home",.str home),("arms",.ref ar),("rule",ru),("shuts",.ref sh),("paused",.bl false),("closed",.bl false),("barred",.ref ba)]))(J:H' ba=some (.dK []))(L:aS K H ar (arms.map V.str))(N:dS K H rule ru)(Q:aS K H sh (shuts.map V.str)):∃l,l.G .hh=Z.G .hh/\l.G .dl=Z.G .dl/\l.ds=Z.ds/\l.tk=Z.tk/\l.ow=Z.ow/\l.cv=Z.cv/\bx P w K a H' {M with trs:=M.trs++[{nm,home,arms,rule,shuts,false,false,[]}]} l/\∀r,vj M.las.length (M.trs.length+1) r->H (l.G r)=none\/(l.G r=Z.G r/\vj M.las.length M.trs.length r):=by
 have im:=h.imm (r:=.tn) () c;have m:(M.trs.map du.nm).length=M.trs.length:=b_ ..;have d:∀r o,cont P w a {M with trs:=M.trs++[{nm,home,arms,rule,shuts,false,false,[]}]} (Z.newT M.trs.length t ba dx ar ru sh) r=some o->(H' ((Z.newT M.trs.length t ba dx ar ru sh).G r)=some o/\(r=.tr M.trs.length\/r=.ba M.trs.length))\/((Z.newT M.trs.length t ba dx ar ru sh).G r=Z.G r/\H' (Z.G r)=some o/\∃y,cont P w a M Z r=some y):=λr o e=>by
  cases r with|tn=>show .inr {(),?_,_,()};rw[v,<-e];change _=some (HO.dK (jn ((M.trs++[({nm,home,arms,rule,shuts,false,false,[]}:du)]).map du.nm) λi=>V.ref ((Z.newT M.trs.length t ba dx ar ru sh).G (.tr i))));rw[ir,Od,wY,m];have O:(Z.newT M.trs.length t ba dx ar ru sh).G (.tr M.trs.length)=t:=i_ ();rw[O,qw (f:=λi=>V.ref ((Z.newT M.trs.length t ba dx ar ru sh).G (.tr i))) (g:=λi=>V.ref (Z.G (.tr i)))];intro i hi;rw[m]at hi;change V.ref (if Ro.tr i=.tr M.trs.length then t else _)=_;rw[iA λz=>m3 hi (by injection z)];rfl|tr j=>
   rcases iX e with⟨rfl,rfl⟩|⟨q,e⟩
   ·show .inl {?_,.inl ()};have k:(Z.newT M.trs.length t ba dx ar ru sh).G (.tr M.trs.length)=t:=i_ ();have A:(Z.newT M.trs.length t ba dx ar ru sh).G (.ba M.trs.length)=ba:=by simp[ZS.newT]
    have R:(Z.newT M.trs.length t ba dx ar ru sh).dx (.tr M.trs.length)=dx:=i_ ();have S:(Z.newT M.trs.length t ba dx ar ru sh).ar M.trs.length=ar:=i_ ();have T:(Z.newT M.trs.length t ba dx ar ru sh).ru M.trs.length=ru:=i_ ();have U:(Z.newT M.trs.length t ba dx ar ru sh).sh M.trs.length=sh:=i_ ();rw[k,A,R,S,T,U];show I
   ·have e:cont P w a M Z (.tr j)=some o:=by rw[<-e];simp[cont,ZS.newT,q]
    show .inr {by simp[ZS.newT,q],c _ _ (h.at_ (.tr j) _ e) λz=>(nomatch h.inj (.tr j) .tn _ _ e () z),_,e}|ba j=>
   rcases iX e with⟨rfl,rfl⟩|⟨q,e⟩
   ·show .inl {?_,.inr ()};have A:(Z.newT M.trs.length t ba dx ar ru sh).G (.ba M.trs.length)=ba:=by simp[ZS.newT]
    rw[A];show J
   ·have e:cont P w a M Z (.ba j)=some o:=by rw[<-e];rfl
    show .inr {by simp[ZS.newT,q],c _ _ (h.at_ (.ba j) _ e) λz=>(nomatch h.inj (.ba j) .tn _ _ e () z),_,e}|hh=>show .inr {(),c _ _ (h.at_ .hh _ e) λz=>(nomatch h.inj .hh .tn _ _ () () z),_,e}|ln=>show .inr {(),c _ _ (h.at_ .ln _ e) λz=>(nomatch h.inj .ln .tn _ _ () () z),_,e}|ci=>show .inr {(),c _ _ (h.at_ .ci _ e) λz=>(nomatch h.inj .ci .tn _ _ () () z),_,e}|dl=>show .inr {(),c _ _ (h.at_ .dl _ e) λz=>(nomatch h.inj .dl .tn _ _ () () z),_,e}|lo j=>show .inr {(),c _ _ (h.at_ (.lo j) _ e) λz=>(nomatch h.inj (.lo j) .tn _ _ e () z),_,e}|iu j=>show .inr {(),c _ _ (h.at_ (.iu j) _ e) λz=>(nomatch h.inj (.iu j) .tn _ _ e () z),_,e}|tb j=>show .inr {(),c _ _ (h.at_ (.tb j) _ e) λz=>(nomatch h.inj (.tb j) .tn _ _ e () z),_,e}|od j=>show .inr {(),c _ _ (h.at_ (.od j) _ e) λz=>(nomatch h.inj (.od j) .tn _ _ e () z),_,e}|td j=>show .inr {(),c _ _ (h.at_ (.td j) _ e) λz=>(nomatch h.inj (.td j) .tn _ _ e () z),_,e}
 have gs:∀r,(r=.tr M.trs.length\/r=.ba M.trs.length)->H ((Z.newT M.trs.length t ba dx ar ru sh).G r)=none:=λr B=>by rcases B with rfl|rfl<;>simp only[ZS.newT]<;>simp[h1,h2]
 show{Z.newT M.trs.length t ba dx ar ru sh,(),(),(),(),(),(),{λr D o y e C g=>?_,λr o e=>?_,λj W e=>(h.seats j W e).kp im.kp,λj X e=>?_,h.tabsI im,h.came.im im},λr B=>?_}
 ·rcases d r o e with⟨q,n⟩|⟨k,q,x,p⟩<;>rcases d D y C with⟨E,F⟩|⟨s,E,Y,u⟩
  ·rw[g,E]at q;have q:=mu q;rcases n with rfl|rfl<;>rcases F with rfl|rfl<;>first|rfl|(exfalso;simp[cont]at e C;rw[<-e,<-C]at q;cases q)
  ·rw[s]at g;have:=h.at_ _ _ u;rw[<-g,gs r n]at this;cases this
  ·rw[k]at g;have:=h.at_ _ _ p;rw[g,gs D F]at this;cases this
  ·rw[k,s]at g;show h.inj _ _ _ _ p u g
 ·rcases d r o e with⟨q,n⟩|⟨k,q,x,p⟩
  ·show q
  ·rw[k];show q
 ·rcases oR e with⟨rfl,rfl⟩|⟨n,q⟩
  ·change aS K H' (if M.trs.length=M.trs.length then ar else _) (arms.map V.str)/\dS K H' rule (if M.trs.length=M.trs.length then ru else _)/\aS K H' (if M.trs.length=M.trs.length then sh else _) (shuts.map V.str);rw[i_ (),i_ (),i_ ()];show{im.kp.tq L,N.kp im.kp,im.kp.tq Q}
  ·change aS K H' (if j=M.trs.length then ar else Z.ar j) _/\dS K H' _ (if j=M.trs.length then ru else Z.ru j)/\aS K H' (if j=M.trs.length then sh else Z.sh j) _;rw[iA n,iA n,iA n];show h.trsI im.kp j X q
 ·obtain⟨o,e⟩:=mW P w a (M:={M with trs:=M.trs++[{nm,home,arms,rule,shuts,false,false,[]}]}) (Z.newT M.trs.length t ba dx ar ru sh) (r:=r) (by simpa using B);rcases d r o e with⟨_,n⟩|⟨k,_,x,p⟩
  ·show .inl (gs r n)
  ·show .inr {k,ng p}
end
def gL(M:bq)(Z:ZS)(b:Addr):Prop:=(∃r,vj M.las.length M.trs.length r/\b=Z.G r)\/(∃i,i<M.las.length/\∃x∈Z.tk i,x.2.2=.ref b)\/∃x∈Z.cv,x.2=.ref b
def fE.outs(n:∀x∈tk,∀l c,x.2.2=.ref l->H l=some (.lst c)->H' l=some (.lst c))(h:fE H tk m):fE H' tk m:=Paired.mapM h λx b _ q=>{q.1,q.2.1,q.2.2.imp λ_ q=>{q.1,n x b _ _ q.1 q.2}}
def eR.outs(e:Kp H H')(n:∀x∈cv,∀l c,x.2=.ref l->H l=some (.lst c)->H' l=some (.lst c))(h:eR K H dl cv cm):eR K H' dl cv cm:=Paired.mapM h λx b _ q=>{q.1,q.2.imp λ_ q=>q.imp λ_ q=>{q.1,q.2.1,n x b _ _ q.1 q.2.2.1,q.2.2.2.kp e}}
def bx.out(h:bx P w K a H M Z)(n:¬gL M Z o)(kp:Kp H H')(f:∀b ob,H b=some ob->b≠o->H' b=some ob):bx P w K a H' M Z:={h.inj,λr ob e=>f _ _ (h.at_ r ob e) λz=>n (.inl {r,ng e,z.symm}),λi l d=>(h.seats i l d).kp kp,h.trsI kp,λi l d=>let⟨h1,⟨m,h2,h3⟩,h4,k⟩:=h.tabs i l d;{λx c=>eL kp (h1 x c),{m,h2.outs λx c l p g j=>f _ _ j λz=>n (.inr (.inl {i,(d_.mp d).1,x,c,by rw[g,z]})),h3},h4.mono λ_ _ q=>eL kp q,k},h.came.outs kp λx c l p g j=>f _ _ j λz=>n (.inr (.inr {x,c,by rw[g,z]}))}
def mn{a b:Addr}{o:HO}(h:aH H a o b=none):H b=none:=by
 by_cases e:b=a
 ·rw[e,ag]at h;cases h
 ·rw[aq e]at h;show h
structure gw(H:Hp)(M:bq)(Z:ZS)(H':Hp)(M':bq)(Z':ZS):Prop where
 hh:Z'.G .hh=Z.G .hh
 fr:∀b o,H b=some o->¬gL M Z b->H' b=some o
 fp:∀b,gL M' Z' b->gL M Z b\/H b=none
 dm:∀b,H' b=none->H b=none
 dd:Z'.G .dl=Z.G .dl
section
variable{H f m p:Hp}{M M1 M2 c:bq}{Z g j a:ZS}
def gw.of(s:ao H p):gw H M Z p M Z:={(),λb o h _=>s b o h,λ_ h=>.inl h,λ_ h=>s.free h,()}
theorem gw.trans(s:gw H M Z f M1 g)(t:gw f M1 g m M2 j):gw H M Z m M2 j:={t.hh.trans s.hh,λb o h n=>t.fr b o (s.fr b o h n) λq=>(s.fp b q).elim n λz=>(by rw[h]at z;cases z),λb q=>(t.fp b q).elim (s.fp b) λz=>.inr (s.dm b z),λb z=>s.dm b (t.dm b z),t.dd.trans s.dd}
def gw.put(u:vj M.las.length M.trs.length r)(s:a.G=Z.G)(h1:c.las.length=M.las.length)(h2:c.trs.length=M.trs.length)(h3:a.tk=Z.tk)(h4:∀x∈a.cv,x∈Z.cv\/∃l,x.2=.ref l/\(gL M Z l\/H l=none)):gw H M Z (aH H (Z.G r) o) c a:={by rw[s],λb o h n=>(by rw[aq λz=>n (.inl (r,u,z,))];show h),λb q=>by
  rcases q with⟨k,h,e⟩|⟨i,hi,x,d,e⟩|⟨x,d,e⟩
  ·show .inl (.inl {k,by rw[<-h1,<-h2];show h,by rw[e,s]})
  ·show .inl (.inr (.inl {i,by rw[<-h1];show hi,x,by rw[<-h3];show d,e}))
  ·rcases h4 x d with q|⟨l,t,q⟩
   ·show .inl (.inr (.inr (x,q,e,)))
   ·rw[t]at e;cases e;show q,λb z=>mn z,by rw[s]}
end
def gw.out{o:Addr}{x:HO}{H c:Hp}{M M1:bq}{Z e:ZS}(s:gw H M Z c M1 e)(n:H o=none):gw H M Z (aH c o x) M1 e:={s.hh,λb d h q=>(by rw[aq (aG h n)];show s.fr b d h q),s.fp,λb z=>s.dm b (mn z),s.dd}
theorem fE.ex(h:fE H tk m)(x:gt)(c:x∈tk):∃l e,x.2.2=.ref l/\H l=some (.lst e):=(Paired.ex h x c).elim λ_ q=>q.2.2.imp λ_ q=>{_,q}
theorem eR.ex(h:eR K H dl cv cm)(x:bK×V)(c:x∈cv):∃l e,x.2=.ref l/\H l=some (.lst e):=(Paired.ex h x c).elim λ_ q=>q.2.imp λ_ q=>q.imp λ_ q=>(q.1,q.2.2.1,)
def bx.foot(h:bx P w K a H M Z)(c:H b=none):¬gL M Z b:=λz=>by
 rcases z with⟨r,j,e⟩|⟨i,hi,x,d,e⟩|⟨x,d,e⟩
 ·obtain⟨o,q⟩:=mW P w a Z j;rw[e,h.at_ r o q]at c;cases c
 ·obtain⟨_,⟨m,q,_⟩,_⟩:=h.tabs i _ (il hi);obtain⟨l,k,f,g⟩:=q.ex x d;rw[f]at e;cases e;rw[g]at c;cases c
 ·obtain⟨l,k,f,g⟩:=h.came.ex x d;rw[f]at e;cases e;rw[g]at c;cases c
structure FC(M:bq)(c:Nat)(l:cb):Prop where
 wd:Wd l.nm
 sl:0<=l.sl/\l.sl<=M.p
 ok:l.S.Ok M.p
 len:l.ins.length<=c
 gs:∀x∈l.ins,uP x.1
 nd:(l.ins.map (·.1)).Nodup
 own:∀k q,q∈l.S.pl k->k=cQ "" ""\/∃t∈M.trs,t.home=l.nm/\∃y∈t.arms,k=cQ t.nm y
structure Hv(M:bq)(t:du):Prop where
 wd:Wd t.nm
 hm:t.home∈M.las.map cb.nm
 a1:1<=t.arms.length
 a4:t.arms.length<=4
 nd:t.arms.Nodup
 aw:∀x∈t.arms,Wd x
 hg:t.rule.hgt<=6
 s8:t.shuts.length<=8
structure j0(M:bq)(c:Nat):Prop where
 p:2<=M.p/\M.p<=997
 ln:(M.las.map cb.nm).Nodup
 tn:(M.trs.map du.nm).Nodup
 la:∀l∈M.las,FC M c l
 tr:∀t∈M.trs,Hv M t
 cm:∀x∈M.came,x.2.length<=10*c
 l4:M.las.length<=4
 tc:M.trs.length<=10
 cl:M.came.length<=10*c
 br:∀t∈M.trs,t.bar.length<=c
structure dn(P:OK)(w:World)(K:OF)(a:f8)(H:Hp)(M:bq)(Z:ZS)(c:Nat):Prop where
 g:bx P w K a H M Z
 ok:j0 M c
 tk:∀i,(Z.tk i).length<=10*c
 ow:∀i,(Z.ow i).length<=5000*c
 ds:Z.ds.length<=c
def FC.mono(h:FC M c l)(hc:c<=d):FC M d l:={h with len:=lm h.len hc}
theorem j0.mono(h:j0 M c)(hc:c<=d):j0 M d:={h with la:=λl b=>(h.la l b).mono hc,cm:=λx e=>lm (h.cm x e) (Nr _ hc),cl:=lm h.cl (Nr _ hc),br:=λt f=>lm (h.br t f) hc}
theorem dn.mono(h:dn P w K a H M Z c)(hc:c<=d):dn P w K a H M Z d:={h.g,h.ok.mono hc,λi=>lm (h.tk i) (Nr _ hc),λi=>lm (h.ow i) (Nr _ hc),lm h.ds hc}
theorem dn.same(h:dn P w K a H M Z c)(e:ao H H'):dn P w K a H' M Z c:={h with g:=h.g.same e}
section
variable{P:OK}{w:World}{K:OF}{a:f8}{H:Hp}{M:bq}{Z:ZS}{c:Nat}
def bx.house(h:bx P w K a H M Z):H (Z.G .hh)=some (.ins a.cK (Z.dx .hh) [("own_prime",.int M.p),("own_salt",.int M.salt),("layer_named",.ref (Z.G .ln)),("trial_named",.ref (Z.G .tn)),("came_into",.ref (Z.G .ci)),("deeds",.ref (Z.G .dl))]):=h.at_ .hh _ ()
def bx.lays(h:bx P w K a H M Z):H (Z.G .ln)=some (.dK (jn (M.las.map cb.nm) λi=>.ref (Z.G (.lo i)))):=h.at_ .ln _ ()
def bx.tris(h:bx P w K a H M Z):H (Z.G .tn)=some (.dK (jn (M.trs.map du.nm) λi=>.ref (Z.G (.tr i)))):=h.at_ .tn _ ()
def bx.cams(h:bx P w K a H M Z):H (Z.G .ci)=some (.dK Z.cv):=h.at_ .ci _ ()
def bx.dees(h:bx P w K a H M Z):H (Z.G .dl)=some (.lst Z.ds):=h.at_ .dl _ ()
def bx.layer(h:bx P w K a H M Z)(e:M.las[i]?=some l):H (Z.G (.lo i))=some (.ins a.fw (Z.dx (.lo i)) [("slope",.int l.sl),("table",.ref (Z.G (.tb i))),("inside",.ref (Z.G (.iu i)))]):=h.at_ (.lo i) _ (by simp only[cont,e];rfl)
def bx.inside(h:bx P w K a H M Z)(e:M.las[i]?=some l):H (Z.G (.iu i))=some (.dK (Z.iv i)):=h.at_ (.iu i) _ (by simp only[cont,e];rfl)
def bx.trial(h:bx P w K a H M Z)(e:M.trs[i]?=some t):H (Z.G (.tr i))=some (.ins a.fX (Z.dx (.tr i)) [("home",.str t.home),("arms",.ref (Z.ar i)),("rule",Z.ru i),("shuts",.ref (Z.sh i)),("paused",.bl t.pau),("closed",.bl t.clo),("barred",.ref (Z.G (.ba i)))]):=h.at_ (.tr i) _ (by simp only[cont,e];rfl)
def bx.barred(h:bx P w K a H M Z)(e:M.trs[i]?=some t):H (Z.G (.ba i))=some (.dK (t.bar.map λg=>(.inr g,.bl true))):=h.at_ (.ba i) _ (by simp only[cont,e];rfl)
def j0.lget(h:j0 M c)(e:M.las[i]?=some l):aX (jn (M.las.map cb.nm) λi=>.ref (Z.G (.lo i))) (.inr l.nm)=some (.ref (Z.G (.lo i))):=sG h.ln (by rw[ig,e];rfl)
def j0.tget(h:j0 M c)(e:M.trs[i]?=some t):aX (jn (M.trs.map du.nm) λi=>.ref (Z.G (.tr i))) (.inr t.nm)=some (.ref (Z.G (.tr i))):=sG h.tn (by rw[ig,e];rfl)
theorem j0.home(h:j0 M c)(g:t∈M.trs):∃(i:Nat)(l:cb),M.las[i]?=some l/\l.nm=t.home:=by obtain⟨l,b,e⟩:=k_.mp (h.tr t g).hm;obtain⟨i,hi⟩:=iq.mp b;show(i,l,hi,e,)
end
section
variable{K:OF}{H:Hp}
def bX.find(h:bX K H iv ins)(hn:(ins.map (·.1)).Nodup):∀x∈ins,∃s,aX iv (.inr x.1)=some (.ref s)/\aS K H s [.str x.2.1,.str x.2.2]:=by induction h with|nil=>showλx b=>(nomatch b)|@cons _ y _ _ h _ c=>
  intro x b;obtain⟨h1,s,h2,h3⟩:=h;rw[n_,NZ]at hn;rcases so.mp b with rfl|b
  ·show{s,by rw[ce h1,h2],h3}
  ·obtain⟨d,f,g⟩:=c hn.2 x b;show{d,?_,g};rw[bG,f];intro e;rw[h1]at e;show hn.1 (by rw[show y.1=x.1 from p5 e];show k_.mpr {x,b,()})
theorem bX.none(h:bX K H iv ins)(hn:g∉ins.map (·.1)):aX iv (.inr g)=Option.none:=by induction h with|nil=>rfl|@cons _ y _ _ h _ b=>
  rw[n_]at hn;rw[bG]
  ·show b λz=>hn (j_ _ z)
  ·intro e;rw[h.1]at e;show hn (by rw[show y.1=g from p5 e];show mo)
def bX.drop(g:Str)(h:bX K H iv ins):bX K H (dy iv (.inr g)) (ins.filter λx=>decide (x.1≠g)):=by induction h with|nil=>show .nil|@cons x y _ _ h _ b=>
  by_cases e:y.1=g
  ·rw[vZ (by rw[h.1,e]),List.filter_cons_of_neg (by simp[e])];show b
  ·rw[v0 (λz=>e (by rw[h.1]at z;show p5 z)),List.filter_cons_of_pos (by simp[e])];show .cons h b
end
def dI(ins:List (Str×Str×Str))(gs:OL):List (Str×Str×Str):=ins.filter λx=>decide (x.1∉gs)
def kX(ins:List (Str×Str×Str)):dI ins []=ins:=List.filter_eq_self.mpr λ_ _=>by simp
def rn(ins:List (Str×Str×Str))(gs:OL)(g:Str):dI ins (gs++[g])=(dI ins gs).filter λx=>decide (x.1≠g):=by
 unfold dI;rw[List.filter_filter];show List.filter_congr λx _=>?_
 by_cases h1:x.1∈gs<;>by_cases h2:x.1=g<;>simp[h1,h2]
def zZ(h:g∈ins.map (·.1))(hn:g∉gs):∃x∈dI ins gs,x.1=g:=by obtain⟨x,b,rfl⟩:=k_.mp h;show{x,C_.mpr {b,by simpa using hn},()}
def vT(h:(ins.map (·.1)).Nodup):((dI ins gs).map (·.1)).Nodup:=(List.Sublist.map _ List.filter_sublist).nodup h
abbrev bq.setL(M:bq)(i:Nat)(l:cb):bq:={M with las:=M.las.set i l}
def mS{M:bq}{i:Nat}{l:cb}(c:M.las[i]?=some l):M.setL i l=M:=by
 have e:M.las.set i l=M.las:=J_ λj=>by
  rw[NC]
  split
  ·rename_i q;subst q;rw[i_ (d_.mp c).1,c]
  ·rfl
 unfold bq.setL;rw[e]
def sY{M:bq}{i:Nat}{l c:cb}:(M.setL i l).setL i c=M.setL i c:=by unfold bq.setL;rw[List.set_set]
def xU{M:bq}{i:Nat}{l l':cb}(c:M.las[i]?=some l):(M.setL i l').las[i]?=some l':=by change(M.las.set i l')[i]?=_;rw[w_ (d_.mp c).1]
theorem j0.setL{M:bq}{c d:Nat}(h:j0 M c){i:Nat}{l e:cb}(g:M.las[i]?=some l)(h1:e.nm=l.nm)(hc:c<=d)(ok:FC M d e):j0 (M.setL i e) d:=by
 have b:(M.las.set i e).map cb.nm=M.las.map cb.nm:=eK g cb.nm h1;have h:=h.mono hc;show{h with ln:=by rw[b];show h.ln,la:=λx j=>?_,tr:=λt f=>{h.tr t f with hm:=by change t.home∈(M.las.set i e).map cb.nm;rw[b];show(h.tr t f).hm},l4:=by change(M.las.set i e).length<=4;rw[D_];show h.l4};rcases pw j with q|rfl
 ·show{h.la x q with}
 ·show{ok with}
inductive KN(P:OK)(w:World)(K:OF)(a:f8)(vs:List V)(H:Hp)(Q:VK)(_E:XK):Prop|mk(M:bq)(Z:ZS)(c i:Nat)(l:cb)(g:Addr)(gs:OL)(_:vs=[.ref (Z.G .hh),.ref (Z.G (.lo i)),.ref g])(_:dn P w K a H M Z c)(_:M.las[i]?=some l)(_:H g=some (.lst (gs.map V.str)))(_:(∀x∈gs,x∈l.ins.map (·.1)))(_:gs.Nodup)(_:gs.length<=63)(_:∀(r:Addr)(us:List V)(Z':ZS)(H':Hp),gw H M Z H' (M.setL i {l with ins:=dI l.ins gs}) Z'->dn P w K a H' (M.setL i {l with ins:=dI l.ins gs}) Z' c->H r=none->H' r=some (.lst us)->Z'.ds=Z.ds->Q (.ref r) H')
inductive JO(P:OK)(w:World)(K:OF)(a:f8)(H:Hp)(M:bq)(Z:ZS)(i:Nat)(l:cb)(g:Addr)(gs:OL)(o:Addr)(k:Nat)(σ:St)(H':Hp):Prop|mk(Z':ZS)(us:OP)(v4 v5:Option V)(hG:bx P w K a H' (M.setL i {l with ins:=dI l.ins (gs.take k)}) Z')(eG:Z'.G=Z.G)(etk:Z'.tk=Z.tk)(eow:Z'.ow=Z.ow)(eds:Z'.ds=Z.ds)(ecv:Z'.cv=Z.cv)(nf:¬gL (M.setL i {l with ins:=dI l.ins (gs.take k)}) Z' o)(st:gw H M Z H' (M.setL i {l with ins:=dI l.ins (gs.take k)}) Z')(hg:H' g=some (.lst (gs.map V.str)))(ho:H' o=some (.lst (us.map V.ref)))(hul:us.length=k)(hus:∀u∈us,∃x y z,aS K H' u [.str x,.str y,.str z])(e:σ=[some (.ref (Z.G .hh)),some (.ref (Z.G (.lo i))),some (.ref g),some (.ref o),v4,v5]):JO P w K a H M Z i l g gs o k σ H'
section
def ko(T:Txt K mg a):aT P w K mg base d0 1 a.cH.x a.cH.d ["self","layer","guests"] (KN P w K a):=by
 show T.cH.ok fA λbQ A outer s H vs Q E hr h=>?_
 ·obtain⟨M,Z,c,i,l,g,gs,rfl,hZ,hl,hg,a6,a7,bz,q⟩:=h;show{_,(ah (bn 3 fA.nd (bf ae)) (ah (eO o0 () (c5 K () (Y 2)) (oK 4 fA.nd) (ah (bn 5 fA.nd (tV (aL K () (Y 1)) (Y 4) {(),(),(),()})) (ai (aY (ja K () PySem.F.plainAttrs_list PySem.F.slot_list_append PySem.F.type_list_append fC (Y 3) (O (ay (t7 K ()) (aO (O (Y 4) ae)) (Y 5)) ae)))))) (ai (az (aA (Aj K ()) (by rfl) T.yA L2.rD (O (Y 3) ae)))))),?_}
  show{ls (),λo ho=>au ?_};show fM ho λH1 s1 a8=>?_;have hL:=hZ.ok.la l (g_ hl);have bb:¬gL M Z o:=hZ.g.foot ho;have bc:(gs.map V.str).length=gs.length:=b_ ..;show U () {g,(),{_,aW.of (s1 _ _ hg)},?_};show kG (xs:=gs.map V.str) (JO P w K a H M Z i l g gs o) {Z,[],_,_,by rw[MH,kX];show(mS hl).symm▸hZ.g.same s1,(),(),(),(),(),by rw[MH,kX];show(mS hl).symm▸bb,by rw[MH,kX];show(mS hl).symm▸gw.of s1,s1 _ _ hg,a8,(),λu hu=>(nomatch hu),()} (λk σ H' _ h=>by obtain⟨_,_,_,_,_,_,_,_,_,_,_,_,h,_⟩:=h;show aW.of h) ?_ ?_
  ·rintro k v σ H2 hv⟨f,us,v4,v5,m,eG,ac,ad,D,ap,W,p,al,C,I,t,rfl⟩N R B hN;rw[ig]at hv;obtain⟨x,X,rfl⟩:=Option.map_eq_some_iff.mp hv;have hk:k<gs.length:=(d_.mp X).1;have aa:=cg X;have bi:x∉gs.take k:=λz=>by have:=a7;rw[<-u_ k gs,ov]at this;show this.2.2 x z x (g_ (by rw[Oe,Nat.add_zero];show X)) ()
   have bl:¬gL (M.setL i {l with ins:=dI l.ins (gs.take k)}) f o:=λz=>(W z);obtain⟨y,hy,ey⟩:=zZ (a6 x (g_ X)) bi;have n:=xU (l':={l with ins:=dI l.ins (gs.take k)}) hl;have as:=m.seats i _ n;obtain⟨s,ax,J⟩:=as.find (vT hL.nd) y hy;rw[ey]at ax;show au (iN (by rw[<-eG];show m.layer n) T.cr T.bT () () {f.G (.iu i),(),.inl {_,.inl (m.inside n)},U () {_,.inr x,_,m.inside n,(),ax,au ?_}});have L:=m.setIns n (as.drop x);have im:=m.imm (r:=.iu i) (by simp only[cont,n];rfl) (cT (o':=.dK (dy (f.iv i) (.inr x))));have S:gw H2 _ f (aH H2 (f.G (.iu i)) (.dK (dy (f.iv i) (.inr x)))) ((M.setL i {l with ins:=dI l.ins (gs.take k)}).setL i {l with ins:=(dI l.ins (gs.take k)).filter λz=>decide (z.1≠x)}) {f with iv:=λj=>if j=i then dy (f.iv i) (.inr x)else f.iv j}:=gw.put (show i<_ from(d_.mp n).1) () (D_ ..) () () λx X=>.inl X;have a2:=cT (x:=f.G (.iu i)) (o':=.dK (dy (f.iv i) (.inr x))) _ _ al λz=>by have e:=m.inside n;rw[<-z,al]at e;cases e
   have an:=cT (x:=f.G (.iu i)) (o':=.dK (dy (f.iv i) (.inr x))) _ _ C λz=>by have e:=m.inside n;rw[<-z,C]at e;cases e
   rw[sY,<-rn,<-aa]at S;have L:bx P w K a (aH H2 (f.G (.iu i)) (.dK (dy (f.iv i) (.inr x)))) (M.setL i {l with ins:=dI l.ins (gs.take (k+1))}) {f with iv:=λj=>if j=i then dy (f.iv i) (.inr x)else f.iv j}:=by rw[aa,rn,<-sY (l:={l with ins:=dI l.ins (gs.take k)})];show L
   have J:=im.kp.tq J;have t:∀u∈us,∃x1 y1 z1,aS K (aH H2 (f.G (.iu i)) (.dK (dy (f.iv i) (.inr x)))) u [.str x1,.str y1,.str z1]:=λu hu=>let⟨x1,y1,z1,h⟩:=t u hu;{x1,y1,z1,im.kp.tq h};generalize aH H2 (f.G (.iu i)) (.dK (dy (f.iv i) (.inr x)))=H3 at L S a2 an J t⊢;show U () {.inl {(),_,aW.of an},U () {ls (),λT1 a3=>(U () {T1,s,[.str x],U () {(),aS.of ag,ao.tseq (ak (ao.refl _) a3) J,by simp,by rw[ji];simp,λz=>(nomatch z),λ_ T2 bt=>?_}})}};have s5:=ak (o:=.tup ([.str x]++[.str y.2.1,.str y.2.2])) (ak (o:=.tup [.str x]) (ao.refl H3) a3) bt;have e5:aH (aH H3 T1 (.tup [.str x])) T2 (.tup ([.str x]++[.str y.2.1,.str y.2.2])) T2=some (.tup [.str x,.str y.2.1,.str y.2.2]):=ag;generalize aH (aH H3 T1 (.tup [.str x])) T2 (.tup ([.str x]++[.str y.2.1,.str y.2.2]))=H5 at s5 e5⊢;have a5:=s5 _ _ an;show rA a5 (by rw[b_,I,ji];lia) ?_;have kp:Kp H5 (aH H5 o (.lst (us.map V.ref++[.ref T2]))):=.lst a5;have nF:¬gL (M.setL i {l with ins:=dI l.ins (gs.take (k+1))}) {f with iv:=λj=>if j=i then dy (f.iv i) (.inr x)else f.iv j} o:=λz=>by
    rcases S.fp o z with q|q
    ·show bl q
    ·rw[C]at q;cases q
   have kq:∀b ob,H5 b=some ob->b≠o->aH H5 o (.lst (us.map V.ref++[.ref T2])) b=some ob:=cT;show hN _ _ {{f with iv:=λj=>if j=i then dy (f.iv i) (.inr x)else f.iv j},us++[T2],_,_,(L.same s5).out nF kp kq,eG,ac,ad,D,ap,nF,((p.trans S).trans (gw.of s5)).out ho,?_,?_,by rw[j1,I];rfl,λu hu=>?_,()}
   ·show kq _ _ (s5 _ _ a2) λz=>by rw[z,ho]at hg;cases hg
   ·rw[ag,ir];rfl
   ·rcases List.mem_append.mp hu with z|z
    ·obtain⟨x1,y1,z1,h⟩:=t u z;show{x1,y1,z1,kp.tq (ao.tseq s5 h)}
    ·rw[List.mem_singleton.mp z];show{_,_,_,kp.tq (aS.of e5)}
  ·rintro σ H2⟨f,us,v4,v5,m,eG,ac,ad,D,ap,W,p,al,C,I,t,rfl⟩;rw[bc]at I m p;rw[ku (e_ _)]at m p;show U () {o,us,(),aW.of C,by lia,t,λr vs hr hp=>?_};have s6:=ak (o:=.lst (vs.map V.ref)) (ao.refl H2) hr;show q r (vs.map V.ref) f _ (p.trans (gw.of s6)) {m.same s6,?_,λj=>by rw[ac];show hZ.tk j,λj=>by rw[ad];show hZ.ow j,by rw[D];show hZ.ds} (p.dm _ hr) ag D;show hZ.ok.setL hl () (e_ _) {hL with len:=lm (yl _ _) hL.len,gs:=λx X=>hL.gs x (C_.mp X).1,nd:=vT hL.nd}
end
def J9.kp(e:Kp H H')(h:J9 K H c W):J9 K H' c W:=Paired.mapP h λ_ _ q=>q.imp λ_ q=>q.imp λ_ q=>{q.1,e.tq q.2.1,eL e q.2.2}
def mO(x:Str)(arms:OL)(l:OQ):Wl:=(arms.zip l).map λp=>(cQ x p.1,p.2)
def FG(h:l.length=arms.length):(mO x arms l).length=arms.length:=by unfold mO;rw[b_,List.length_zip,h,Nat.min_self]
def CJ{x:Str}{arms:OL}{l:OQ}{i:Nat}{y:Str}{z:Int}(h1:arms[i]?=some y)(h2:l[i]?=some z):(mO x arms l)[i]?=some (cQ x y,z):=by unfold mO;rw[ig,List.getElem?_zip_eq_some (z:=(y,z))|>.mpr (h1,h2,)];rfl
theorem sJ:∀{arms:OL}{l:OQ},l.length=arms.length->(mO x arms l).map (·.1)=arms.map (cQ x)|[],_,_=>()|y::r,[],h=>nomatch h|y::r,z::l,h=>by change cQ x y::(mO x r l).map (·.1)=cQ x y::r.map (cQ x);rw[sJ (by simpa using h)]
def kY(h:cQ x y=cQ z u):x=z/\y=u:=by have h:=p5 h;rw[OC,OC]at h;show{p5 h.1,p5 h.2.1}
def Ii(h:l.length=arms.length)(hn:arms.Nodup):((mO x arms l).map (·.1)).Nodup:=by rw[sJ h,MU,List.pairwise_map];show(MU.mp hn).imp λh e=>h (kY e).2
def Ih(h:∀i∈l,0<=i):∀y∈mO x arms l,0<=y.2:=λy b=>by obtain⟨p,c,rfl⟩:=k_.mp b;show h _ (MM c).2
def ET{S:AS}{j k:bY}{n:Nat}{q:Int}(h:q∈(S.give j n).pl k):q∈S.pl k:=by
 have h:q∈(if k=j then(S.pl j).take n else S.pl k):=h
 split at h
 ·rename_i e;rw[e];show Nk h
 ·show h
theorem mB:∀{W:Wl}{S:AS}{k:bY}{q:Int},q∈(bM S W).pl k->q∈S.pl k|[],_,_,_,h=>h|x::r,_,_,_,h=>ET (mB (W:=r) h)
theorem lN:∀{W:Wl}{S:AS}{k:bY}{q:Int},q∈(cf n S W).pl k->q∈S.pl k\/k∈W.map (·.1)
 |[],_,_,_,h=>.inl h|x::r,S,k,q,h=>by
  rcases lN (W:=r) h with h|h
  ·have h:q∈(if k=x.1 then S.pl x.1++_ else S.pl k):=h
   split at h
   ·rename_i e;show .inr (by rw[n_,e];show mo)
   ·show .inl h
  ·show .inr (j_ _ h)
section
variable{P:OK}{w:World}{K:OF}{a:f8}{H f:Hp}{M:bq}{Z:ZS}{c:Nat}
theorem dn.told(h:dn P w K a H M Z c)(A:M.las[i]?=some l)(o:mH (Z.G (.od i)) (Z.G (.td i)) H f)(C:eX P w K a.bQ f (Z.G (.tb i)) (Z.G (.od i)) (Z.G (.td i)) M.p s u L)(N:jo M.p v s L)(Q:uO (dz K H) M.p v s)(I:fJ H (Z.tk i) u)(b1:u.length<=(Z.tk i).length+10)(b2:s.length<=(Z.ow i).length+5000)(hok:v.Ok M.p)(own:∀k q,q∈v.pl k->(∃D,D∈l.S.pl k)\/k=cQ "" ""\/∃t∈M.trs,t.home=l.nm/\∃y∈t.arms,k=cQ t.nm y):∃B,dn P w K a f (M.setL i {l with S:=v}) B (c+1)/\gw H M Z f (M.setL i {l with S:=v}) B/\B.ds=Z.ds/\B.G=Z.G:=by
 have J:=h.ok.la l (g_ A);obtain⟨m,U,_⟩:=h.g.tab A;have len:(M.setL i {l with S:=v}).las.length=M.las.length:=D_ ..;show{_,{h.g.told A o C N Q I,h.ok.setL A () (sf c) {J.mono (sf c)with ok:=hok,own:=λk q O=>?_},λj=>?_,λj=>?_,p6 h.ds},{(),λb ob e n=>?_,λb q=>?_,λb z=>pP o (by rw[C.own];simp) (by rw[C.tak];simp) z,()},(),()}
 ·rcases own k q O with⟨D,h1⟩|h1
  ·show J.own k D h1
  ·show h1
 ·change(if j=i then u else Z.tk j).length<=_;have:=h.tk j
  split
  ·rename_i e;subst e;lia
  ·lia
 ·change(if j=i then s else Z.ow j).length<=_;have:=h.ow j
  split
  ·rename_i e;subst e;lia
  ·lia
 ·have hi:=(d_.mp A).1;show o b ob e (λz=>n (.inl {.od i,hi,z})) (λz=>n (.inl {.td i,hi,z}))
 ·rcases q with⟨r,R,e⟩|⟨j,E,x,d,e⟩|⟨x,d,e⟩
  ·show .inl (.inl {r,by rw[<-len];show R,e})
  ·rw[len]at E
   replace d:x∈(if j=i then u else Z.tk j):=d
   by_cases q:j=i
   ·rw[i_ q]at d;subst q;rcases I x d with⟨y,T,F⟩|⟨V,F,hn⟩
    ·show .inl (.inr (.inl {j,E,y,T,by rw[F,e]}))
    ·rw[F]at e;cases e;show .inr hn
   ·rw[iA q]at d;show .inl (.inr (.inl (j,E,x,d,e,)))
  ·show .inl (.inr (.inr (x,d,e,)))
end
def bX.get(h:bX K H iv ins)(k:Nat)(x:bK×V)(e:iv[k]?=some x):∃y,ins[k]?=some y/\x.1=.inr y.1:=(Paired.at_ h k x e).imp λ_ q=>(q.1,q.2.1,)
def bX.len(h:bX K H iv ins):iv.length=ins.length:=Paired.length h
def A7{z:Int}{l:OQ}:lz (.int z) (l.map V.int)=decide (z∈l):=by
 by_cases h:z∈l
 ·rw[m_ h];unfold lz;rw[NP];show{.int z,k_.mpr {z,h,()},by change(z==z)=true;show MG z}
 ·rw[me h];unfold lz;rw[Ol];intro v b e;obtain⟨y,c,rfl⟩:=k_.mp b;have e:(y==z)=true:=e;show h (by rw[<-eq_of_beq e];show c)
theorem oC:∀l:List Int,(l.map V.int).all nZ=true|[]=>()|w::r=>by rw[n_,Ni,oC r];rfl
def JP(M:bq)(l:cb)(c:OQ):List Str:=(l.ins.map (·.1)).filter λg=>decide (tT M.p M.salt l.sl g∈c)
def sW(M:bq)(l:cb)(t:du)(ns:OQ):AS:=cf M.p (bM l.S (mO t.nm t.arms ns)) (mO t.nm t.arms ns)
noncomputable def lP(M:bq)(i:Nat)(l:cb)(t:du)(ns:OQ):bq:=M.setL i {l with S:=sW M l t ns,ins:=dI l.ins (JP M l (dO l.S (mO t.nm t.arms ns)))}
inductive FT(P:OK)(w:World)(K:OF)(a:f8)(vs:List V)(H:Hp)(Q:VK)(E:XK):Prop|mk(M:bq)(Z:ZS)(c i j:Nat)(l:cb)(t:du)(nv:Addr)(ns:OQ)(_:vs=[.ref (Z.G .hh),.str t.nm,.ref nv])(_:dn P w K a H M Z c)(_:c<=63)(_:M.trs[j]?=some t)(_:M.las[i]?=some l)(_:l.nm=t.home)(_:(aW K H nv (ns.map V.int)\/aS K H nv (ns.map V.int)))(_:ns.length=t.arms.length)(_:(∀x∈ns,0<=x))(_:(jE l.S (mO t.nm t.arms ns)<=((oM M.p l.S.oc).length:Int)->∀(r:Addr)(us:List V)(Z':ZS)(H':Hp),gw H M Z H' (lP M i l t ns) Z'->dn P w K a H' (lP M i l t ns) Z' (c+1)->H r=none->H' r=some (.lst us)->Z'.ds=Z.ds->Q (.ref r) H'))(_:(((oM M.p l.S.oc).length:Int)<jE l.S (mO t.nm t.arms ns)->∀H',ao H H'->E (.ref a.mJ) none H'))
section
def gD(T:Txt K mg a):aT P w K mg base (oN P w) 4 a.bJ.x a.bJ.d ["self","name","numbers"] (FT P w K a):=by
 show T.bJ.okE dC λef A outer s H vs Q E hr h=>?_
 ·obtain⟨M,Z,c,i,j,l,t,nv,ns,rfl,u,hc,hj,hl,hh,cS,ac,c0,q,qe⟩:=h;show{_,(ah (bn 3 dC.nd (cF (bv hr) (aL K () (Y 0)) (Y 1) (λ_ _=>()))) (ah (tR (i:=4) dC.nd () (.inr ()) (cF (bv hr) (aL K () (Y 0)) (aL K () (Y 3)) (λ_ _=>()))) (ah (tR (i:=5) dC.nd () (.inr ()) (bw (aL K () (Y 4)) T.bD T.et.m ((nP (P:=P) (w:=w) T).mono (by decide)) hr T.et.b .nil bS (O (uu cZ ["arm","number"] [] [7,8] (am fB) (xf _ 7 8) (Gw K () () T.Li (O (aL K () (Y 3)) (O (Y 2) ae))) (λcl C s₀ H₀ ex=>{(eU K () () (bd (lF cZ ["arm","number"] 7) (bd (lF cZ ["arm","number"] 8) eT))),bR,(aO (O (aO (O (Y 1) (O (Y 7) ae))) (O (Y 8) ae)))})) ae))) (ah (zC (P:=P) (w:=w) (Ai 6 cZ ["guest"] [] [7] (am fB) (bW 7) (Gz (P:=P) (w:=w) (aL K () (Y 4))) (λcl C s₀ H₀ ex=>{(lF cZ ["guest"] 7),(pD (aC (mi K ()) (bw (Y 0) T.aF T.cn.m ((jC (P:=P) (w:=w) T).mono (by decide)) hr T.cn.b .nil bj (O (Y 4) (O (Y 7) ae))) (Y 5) (by with_unfolding_all rfl))),(Y 7)}) dC.nd)) (ai (az (bw (Y 0) T.aF T.cH.m ((ko (P:=P) (w:=w) T).mono (by decide)) hr T.cH.b .nil bj (O (Y 4) (O (Y 6) ae))))))))),?_}
  have a7:=g_ hj;have hT:=u.ok.tr t a7;have hL:=u.ok.la l (g_ hl);have hI:=u.g.house;have a8:=u.g.trial hj;obtain⟨bb,-,-⟩:=u.g.trs j t hj;have bc:=u.ok.lget (Z:=Z) hl;rw[hh]at bc;show iN hI T.aF T.bg () () (U () (rG (.ref (Z.G (.tr j))) (by rw[<-u.ok.tget (Z:=Z) hj];show dq.k (k:=.inr t.nm) u.g.tris) (au ?_)));show iN hI T.aF T.a9 () () (iN a8 T.bC T.jS () () (rG (.ref (Z.G (.lo i))) (by rw[<-bc];show dq.k (k:=.inr t.home) u.g.lays) (au ?_)));obtain⟨m,bi,eg⟩:=u.g.tab hl;obtain⟨ei,c1⟩:=bi.ins;show iN (u.g.layer hl) T.cr T.gF () () (rM c1 () ?_);show iN a8 T.bC T.fQ () () (U () {Z.ar j,nv,t.arms.map V.str,ns.map V.int,(),bb,?_});have c2:(mO t.nm t.arms ns).length=t.arms.length:=FG ac;have ej:=hT.a4;show Cq (K:=K) (a:=Z.ar j) (l:=nv) (xs:=t.arms.map V.str) (ys:=ns.map V.int) (λD k f H'=>ao H H'/\H' D=some (.lst f)/\J9 K H' f ((mO t.nm t.arms ns).take k)) cS (λD hD=>{ak (ao.refl _) hD,ag,.nil}) (by rw[b_,b_,ac]) (λD k f H' h=>{ao.tseq h.1 bb,h.1}) ?_ ?_
  ·rintro D k x1 x2 f H2 T1 hD ax bl⟨s2,a2,L⟩c3;have hi:k<(t.arms.map V.str).length:=(d_.mp ax).1;rw[ig]at ax bl;obtain⟨ya,c4,rfl⟩:=Option.map_eq_some_iff.mp ax;obtain⟨z2,da,rfl⟩:=Option.map_eq_some_iff.mp bl;show fM c3 λJ s3 a3=>?_;show{T1,U () {aS.of a3,(),_,U () (au {_,U () (au {(),iy (bh ?_)})})}};show U () (U () {ls (),λB dc=>(U () {ls (),λT5 bt=>?_})});have s5:=ak (o:=.tup [.ref B,.int z2]) (ak (o:=.tup [.str t.nm,.str ya]) s3 dc) bt;have e5:aH (aH J B (.tup [.str t.nm,.str ya])) T5 (.tup [.ref B,.int z2]) T5=some (.tup [.ref B,.int z2]):=ag;have e4:aH (aH J B (.tup [.str t.nm,.str ya])) T5 (.tup [.ref B,.int z2]) B=some (.tup [.str t.nm,.str ya]):=by rw[aq (aG ag bt)];show ag
   have di:f.length<=4:=by have:=Paired.length L;rw[oa]at this;lia
   change aH (aH J B (.tup [.str t.nm,.str ya])) T5 (.tup [.ref B,.int z2]) D=some (.lst f)/\_;generalize aH (aH J B (.tup [.str t.nm,.str ya])) T5 (.tup [.ref B,.int z2])=H5 at s5 e4 e5⊢;have N:=s5 _ _ a2;have kp:Kp H5 (aH H5 D (.lst (f++[.ref T5]))):=.lst N;show{N,by rw[ji];show si di (l_ ()),lf hi {bu (s2.trans s5) hD,ag,?_}};rw[cg (CJ c4 da)];show Paired.snoc ((L.kp (.of s5)).kp kp) {T5,.ref B,(),kp.tq (aS.of e5),B,(),kp.tq (aS.of e4)}
  ·rintro D f H2 hD⟨s2,a2,L⟩;rw[b_,ku (by show MY c2)]at L;have a5:=u.same s2;obtain⟨m2,a6,bz⟩:=a5.g.tab hl;have ek:=u.tk i;have el:=u.ow i;have hp:=u.ok.p;show{Z.G (.tb i),Z.G (.od i),Z.G (.td i),D,M.p,Z.ow i,Z.tk i,m2,l.S,mO t.nm t.arms ns,f,(),a6,bz,(a5.g.tabs i l hl).2.2.1,hL.ok,a2,L,Ih c0,Ii ac hT.nd,by lia,by lia,by lia,by lia,λdt lb en eo m' J off a3 dv dT eq R nw nl b1 b2=>au ?_,λdV J s3=>qe dV J (s2.trans s3)};obtain⟨Z3,v,d1,d2,eG⟩:=a5.told hl off a3 dv dT nw b1 b2 (kM _ (jf _ hL.ok)) λk x hx=>by
    rcases lN hx with h|h
    ·show .inl {x,mB h}
    ·rw[sJ ac]at h;obtain⟨y,hy,rfl⟩:=k_.mp h;show .inr (.inr {t,a7,hh.symm,y,hy,()})
   have ad:=xU (l':={l with S:=sW M l t ns}) hl;have v:dn P w K a J (M.setL i {l with S:=sW M l t ns}) Z3 (c+1):=v;have bQ:=v.g.seats i _ ad;have W:=v.g.layer ad;have F:=v.g.house;have I:=v.g.inside ad;rw[eG]at F W I;show iN W T.cr T.bT () () {Z.G (.iu i),U () {I,λep=>λDg an=>?_}};have nd:Z.G (.iu i)≠Dg:=λz=>by rw[<-z,ag]at an;cases an
   have as:J Dg=none:=by rw[aq (o8 nd)]at an;show an
   have d3:(l.ins.map (·.1)).length=(Z3.iv i).length:=by rw[b_];show bQ.len.symm
   have er:=hL.len;show xj (n:=(Z3.iv i).length) (λk f H2=>(∀b o,J b=some o->b≠Z.G (.iu i)->H2 b=some o)/\H2 (Z.G (.iu i))=some (dE P w (Z.G (.iu i)) (Z3.iv i) ep)/\H2 Dg=some (.lst f)/\f=(((l.ins.map (·.1)).take k).filter λg=>decide (tT M.p M.salt l.sl g∈dO l.S (mO t.nm t.arms ns))).map V.str) {λb o e n=>by rw[aq (aG e as),aq n];show e,by rw[aq nd,ag],ag,()} (λk f H2 hk h=>(h.2.1,hk,)) ?_ ?_
   ·rintro k f H4 x H5 hk⟨f4,X,aa,rfl⟩⟨rfl,hx⟩;obtain⟨p0,d4,rfl⟩:=Option.map_eq_some_iff.mp hx;obtain⟨y,hy,ey⟩:=bQ.get k p0 d4;have d5:=hL.gs y (g_ hy);rw[ey];have b0:Z.G .hh≠Z.G (.iu i):=λz=>by rw[z,I]at F;cases F
    have ea:Z.G (.lo i)≠Z.G (.iu i):=λz=>by rw[z,I]at W;cases W
    have eb:lb≠Z.G (.iu i):=λz=>by rw[z,I]at R;cases R
    have ec:=hL.sl;show au (nM (f4 _ _ F b0) () () (U () (U () {Z.G .hh,Z.G (.lo i),_,_,_,_,M.p,M.salt,l.sl,y.1,(),f4 _ _ F b0,(),(),f4 _ _ W ea,(),d5,{by lia,by lia},{by show ec.1,by lia},λH6 s6=>?_})));show U () {lb,U () {.inl (aW.of (s6 _ _ (f4 _ _ R eb))),(),oC _,U () ?_}};have b8:(l.ins.map (·.1)).take (k+1)=(l.ins.map (·.1)).take k++[y.1]:=cg (by rw[ig,hy];rfl);have al:((((l.ins.map (·.1)).take k).filter λg=>decide (tT M.p M.salt l.sl g∈dO l.S (mO t.nm t.arms ns))).map V.str).length<=63:=by rw[b_];show lm (yl _ _) ?_;rw[oa,b_];lia
    change if(if false=true then _ else lz (.int (tT M.p M.salt l.sl y.1)) _)=true then _ else _
    rw[iA kw,A7];have f6:∀b o,J b=some o->b≠Z.G (.iu i)->H6 b=some o:=λb o e n=>s6 _ _ (f4 b o e n)
    by_cases ap:tT M.p M.salt l.sl y.1∈dO l.S (mO t.nm t.arms ns)
    ·rw[m_ ap];show bh (U () {s6 _ _ aa,by rw[ji];lia,lf hk {λb o e n=>by rw[aq (aG e as)];show f6 b o e n,by rw[aq nd];show s6 _ _ X,ag,?_}});rw[b8,Og,ir,List.filter_cons_of_pos (by simpa using ap)];rfl
    ·rw[me ap];show bV (lf hk {f6,s6 _ _ X,by rw[s6 _ _ aa],?_});rw[b8,Og,ir,List.filter_cons_of_neg (by simpa using ap)];show(pv _).symm
   ·rintro f H4⟨f4,X,aa,rfl⟩;show{{X,e_ _},au {Z.G (.iu i),_,ep,X,?_}};rw[ku (by show MY d3)]at aa;have s4:ao J (aH H4 (Z.G (.iu i)) (.dK (Z3.iv i))):=λb o e=>by
     by_cases z:b=Z.G (.iu i)
     ·rw[z,I]at e;rw[z,ag];show e
     ·rw[aq z];show f4 b o e z
    have N:aH H4 (Z.G (.iu i)) (.dK (Z3.iv i)) Dg=some (.lst ((JP M l (dO l.S (mO t.nm t.arms ns))).map V.str)):=by rw[aq (o8 nd)];show aa
    generalize aH H4 (Z.G (.iu i)) (.dK (Z3.iv i))=H5 at s4 N⊢;show nM (s4 _ _ F) () () (U () (U () {M.setL i {l with S:=sW M l t ns},Z3,c+1,i,_,Dg,JP M l (dO l.S (mO t.nm t.arms ns)),by rw[eG];rfl,v.same s4,ad,N,λx hx=>(C_.mp hx).1,List.filter_sublist.nodup hL.nd,?_,λr us Z6 H6 b9 cc hr ed ci=>?_}))
    ·show lm (yl _ _) ?_;rw[b_];lia
    ·rw[sY]at b9 cc;have cK:gw H M Z H5 (M.setL i {l with S:=sW M l t ns}) Z3:=((gw.of s2).trans d1).trans (gw.of s4);show q dt r us Z6 H6 (cK.trans b9) cc (cK.dm _ hr) ed (ci.trans d2)
end
abbrev bq.setT(M:bq)(j:Nat)(t:du):bq:={M with trs:=M.trs.set j t}
def j6{M:bq}{i:Nat}{t t':du}(c:M.trs[i]?=some t):(M.setT i t').trs[i]?=some t':=by change(M.trs.set i t')[i]?=_;rw[w_ (d_.mp c).1]
section
variable{P:OK}{w:World}{K:OF}{a:f8}{H:Hp}{M:bq}{Z:ZS}{c:Nat}
theorem j0.setT(h:j0 M c){j:Nat}{t t':du}(g:M.trs[j]?=some t)(h1:t'.nm=t.nm)(h2:t'.home=t.home)(h3:t'.arms=t.arms)(h4:t'.rule=t.rule)(o:t'.shuts=t.shuts)(p:t'.bar.length<=c):j0 (M.setT j t') c:=by
 have r:(M.trs.set j t').map du.nm=M.trs.map du.nm:=eK g du.nm h1;show{h with tn:=by rw[r];show h.tn,la:=λl s=>?_,tr:=λx b=>?_,tc:=by change(M.trs.set j t').length<=10;rw[D_];show h.tc,br:=λx b=>?_}
 ·have q:=h.la l s;show{q with own:=λk z u=>?_};rcases q.own k z u with e|⟨x,b,d,y,m,n⟩
  ·show .inl e
  ·obtain⟨i,hi⟩:=iq.mp b
   by_cases e:i=j
   ·subst e;rw[g]at hi;cases hi;show .inr {t',g_ (j6 g),by rw[h2];show d,y,by rw[h3];show m,by rw[h1];show n}
   ·show .inr {x,g_ (i:=i) (by rw[oD λz=>e z.symm];show hi),d,y,m,n}
 ·rcases pw b with q|rfl
  ·show{h.tr x q with}
  ·have q:=h.tr t (g_ g);show{by rw[h1];show q.wd,by rw[h2];show q.hm,by rw[h3];show q.a1,by rw[h3];show q.a4,by rw[h3];show q.nd,by rw[h3];show q.aw,by rw[h4];show q.hg,by rw[o];show q.s8}
 ·rcases pw b with q|rfl
  ·show h.br x q
  ·show p
theorem dn.setTr(h:dn P w K a H M Z c)(e:M.trs[j]?=some t)(h1:t'.nm=t.nm)(h0:t'.home=t.home)(h2:t'.arms=t.arms)(h3:t'.rule=t.rule)(h4:t'.shuts=t.shuts)(l:t'.bar.length<=c)(i:(r0=.tr j/\t'.bar=t.bar)\/(r0=.ba j/\t'.home=t.home/\t'.pau=t.pau/\t'.clo=t.clo))(m:cont P w a (M.setT j t') Z r0=some o'):dn P w K a (aH H (Z.G r0) o') (M.setT j t') Z c/\gw H M Z (aH H (Z.G r0) o') (M.setT j t') Z:=by show{{h.g.setTr e h1 h2 h3 h4 i m,h.ok.setT e h1 h0 h2 h3 h4 l,h.tk,h.ow,h.ds},gw.put ?_ () () (D_ ..) () λx b=>.inl b};have hi:=(d_.mp e).1;rcases i with⟨rfl,_⟩|⟨rfl,_⟩<;>show hi
end
theorem vK{S:AS}:∀{W:Wl},(∀x∈W,x.2=0)->jE S W<=0|[],_=>Oa _|x::r,h=>by rw[zL,h x mo];have:=vK (S:=S) (W:=r) λy b=>h y (j_ _ b);lia
def pV:bY:=cQ "" ""
noncomputable def EL(M:bq)(i:Nat)(l:cb)(z:Int):bq:=M.setL i {l with S:=cf M.p (bM l.S [(pV,z)]) [(pV,z)]}
def iF(t:du):List Int:=List.replicate t.arms.length 0
inductive IL(P:OK)(w:World)(K:OF)(a:f8)(vs:List V)(H:Hp)(Q:VK)(E:XK):Prop|mk(M:bq)(Z:ZS)(c i:Nat)(l:cb)(z:Int)(_:vs=[.ref (Z.G .hh),.str l.nm,.int z])(_:dn P w K a H M Z c)(_:c<=63)(_:M.las[i]?=some l)(_:0<=z)(_:(jE l.S [(pV,z)]<=((oM M.p l.S.oc).length:Int)->∀(r:Addr)(Z':ZS)(H':Hp),gw H M Z H' (EL M i l z) Z'->dn P w K a H' (EL M i l z) Z' (c+1)->H r=none->H' r=some (.lst [])->Z'.ds=Z.ds->Q (.ref r) H'))(_:(((oM M.p l.S.oc).length:Int)<jE l.S [(pV,z)]->∀H',ao H H'->E (.ref a.mJ) none H'))
inductive FZ(P:OK)(w:World)(K:OF)(a:f8)(vs:List V)(H:Hp)(Q:VK)(E:XK):Prop|mk(M:bq)(Z:ZS)(c j:Nat)(t:du)(b:Bool)(_:vs=[.ref (Z.G .hh),.str t.nm,.bl b])(_:dn P w K a H M Z c)(_:M.trs[j]?=some t)(_:∀(r:Addr)(H':Hp),gw H M Z H' (M.setT j {t with pau:=b}) Z->dn P w K a H' (M.setT j {t with pau:=b}) Z c->H r=none->H' r=some (.lst [])->Q (.ref r) H')
inductive Gb(P:OK)(w:World)(K:OF)(a:f8)(vs:List V)(H:Hp)(Q:VK)(E:XK):Prop|mk(M:bq)(Z:ZS)(c i j:Nat)(l:cb)(t:du)(_:vs=[.ref (Z.G .hh),.str t.nm])(_:dn P w K a H M Z c)(_:c<=63)(_:M.trs[j]?=some t)(_:M.las[i]?=some l)(_:l.nm=t.home)(_:∀(r:Addr)(us:List V)(Z':ZS)(H':Hp),gw H M Z H' (lP (M.setT j {t with clo:=true}) i l {t with clo:=true} (iF t)) Z'->dn P w K a H' (lP (M.setT j {t with clo:=true}) i l {t with clo:=true} (iF t)) Z' (c+1)->H r=none->H' r=some (.lst us)->Z'.ds=Z.ds->Q (.ref r) H')
section
def qv(T:Txt K mg a):aT P w K mg base (oN P w) 4 a.dL.x a.dL.d ["self","name","number"] (IL P w K a):=by
 show T.dL.okE qm λap A outer s H vs Q E u h=>?_
 ·obtain⟨M,Z,c,i,l,z,rfl,f,hc,j,hz,q,qe⟩:=h;show{_,(ah (aY (bw (aL K () (cF (bv u) (aL K () (Y 0)) (Y 1) (λ_ _=>()))) T.bD T.et.m ((nP (P:=P) (w:=w) T).mono (by decide)) u T.et.b .nil bS (O (bf (O (aO (O (ck (v:=.ref a.uM) {_,T.Ew,()} ()) (O (Y 2) ae))) ae)) ae))) (ai (az (bf ae)))),?_}
  have hL:=f.ok.la l (g_ j);obtain⟨m,y,as⟩:=f.g.tab j;obtain⟨ax,I⟩:=y.ins;show iN f.g.house T.aF T.a9 () () (U () (rG (.ref (Z.G (.lo i))) (by rw[<-f.ok.lget (Z:=Z) j];show dq.k (k:=.inr l.nm) f.g.lays) ?_));show rF (f.g.layer j) T.cr T.gF () (rM I () ?_);show U () {ls (),λe J=>{ls (),λD hD=>?_}};have F:=ak (o:=.lst [.ref e]) (ak (o:=.tup [.ref a.uM,.int z]) (ao.refl H) J) hD;have e5:aH (aH H e (.tup [.ref a.uM,.int z])) D (.lst [.ref e]) D=some (.lst [.ref e]):=ag;have e4:aH (aH H e (.tup [.ref a.uM,.int z])) D (.lst [.ref e]) e=some (.tup [.ref a.uM,.int z]):=by rw[aq (aG ag hD)];show ag
  generalize aH (aH H e (.tup [.ref a.uM,.int z])) D (.lst [.ref e])=H2 at F e4 e5⊢;have n:=f.same F;obtain⟨m2,t,B⟩:=n.g.tab j;have a2:=f.tk i;have a3:=f.ow i;have hp:=f.ok.p;show{Z.G (.tb i),Z.G (.od i),Z.G (.td i),D,M.p,Z.ow i,Z.tk i,m2,l.S,[(pV,z)],[.ref e],(),t,B,(n.g.tabs i l j).2.2.1,hL.ok,e5,.cons {e,.ref a.uM,(),aS.of e4,a.uM,(),T.A3.sq _} .nil,λx L=>by rw[List.mem_singleton.mp L];show hz,by simp,by simp,by lia,by lia,by lia,λN lb a5 a6 m' R off V W X a7 an nw nl b1 b2=>?_,λaa R s3=>qe aa R (F.trans s3)};obtain⟨Z3,ac,ad,al,eG⟩:=n.told j off V W X nw b1 b2 (kM _ (jf _ hL.ok)) λk x L=>by
   rcases lN L with h|h
   ·show .inl {x,mB h}
   ·show .inr (.inl (List.mem_singleton.mp h))
  show{ls (),λr u=>?_};have s4:=ak (o:=.lst []) (ao.refl R) u;have C:=(gw.of F).trans ad;show q N r Z3 _ (C.trans (gw.of s4)) (ac.same s4) (C.dm _ u) ag al
def jD(T:Txt K mg a):aT P w K mg base d0 1 a.cp.x a.cp.d ["self","name","paused"] (FZ P w K a):=by
 show T.cp.ok jv λu A outer s H v Q E l h=>?_
 ·obtain⟨M,Z,c,j,t,b,rfl,e,f,q⟩:=h;show{_,(ah (bn 3 jv.nd (cF (bv l) (aL K () (Y 0)) (Y 1) (λ_ _=>()))) (ah (cE K () (Y 3) (Y 2)) (ai (az (bf ae))))),?_}
  have m:=e.g.trial f;show iN e.g.house T.aF T.bg () () (U () (rG (.ref (Z.G (.tr j))) (by rw[<-e.ok.tget (Z:=Z) f];show dq.k (k:=.inr t.nm) e.g.tris) (au ?_)));show U () (U () {Z.G (.tr j),_,_,U () {m,T.bC,T.iB,by simp,?_}});obtain⟨n,i⟩:=e.setTr (t':={t with pau:=b}) (r0:=.tr j) f () () () () () (e.ok.br t (g_ f)) (.inl {(),()}) (by simp only[cont,j6 f];rfl);show{ls (),λr l=>?_};have p:=ak (o:=.lst []) (ao.refl _) l;show q r _ (i.trans (gw.of p)) (n.same p) (i.dm _ l) ag
def pO(T:Txt K mg a):aT P w K mg base (oN P w) 5 a.dh.x a.dh.d ["self","name"] (Gb P w K a):=by
 show T.dh.okE jw λap A outer s H vs Q E z h=>?_
 ·obtain⟨M,Z,c,i,j,l,t,rfl,f,hc,n,hl,hh,q⟩:=h;show{_,(ah (bn 2 jw.nd (cF (bv z) (aL K () (Y 0)) (Y 1) (λ_ _=>()))) (ah (cE K () (Y 2) dU) (ai (az (bw (Y 0) T.aF T.bJ.m ((gD (P:=P) (w:=w) T).mono (by decide)) z T.bJ.b .nil bS (O (Y 1) (O (ay DP (bf (O af ae)) (aA (aI K ()) (by rfl) T.bE L2.aJ (O (aL K () (Y 2)) ae))) ae))))))),?_}
  have B:=f.g.trial n;show iN f.g.house T.aF T.bg () () (U () (rG (.ref (Z.G (.tr j))) (by rw[<-f.ok.tget (Z:=Z) n];show dq.k (k:=.inr t.nm) f.g.tris) (au ?_)));show U () {Z.G (.tr j),_,_,U () {B,T.bC,T.iC,by simp,?_}};have u:=j6 (t':={t with clo:=true}) n;obtain⟨e,C⟩:=f.setTr (t':={t with clo:=true}) (r0:=.tr j) n () () () () () (f.ok.br t (g_ n)) (.inl {(),()}) (by simp only[cont,j6 n];rfl);have D:=e.g.house;have F:=e.g.trial u;obtain⟨v,-,-⟩:=e.g.trs j _ u;show nM D () () (U () {ls (),λI J=>?_});have L:=ak (o:=.lst [.int 0]) (ao.refl _) J;have e2:aH (aH H (Z.G (.tr j)) (.ins a.fX (Z.dx (.tr j)) [("home",.str t.home),("arms",.ref (Z.ar j)),("rule",Z.ru j),("shuts",.ref (Z.sh j)),("paused",.bl t.pau),("closed",.bl true),("barred",.ref (Z.G (.ba j)))])) I (.lst [.int 0]) I=some (.lst [.int 0]):=ag;show iN (L _ _ F) T.bC T.fQ () () {_,t.arms.length,(),.inr {_,ao.tseq L v,by simp},I,_,U () {(),e2,by show kl _,by have:=(f.ok.tr t (g_ n)).a4;lia,cG (by have:=(f.ok.tr t (g_ n)).a4;simp;show lm this (l_ ())),λg hg=>?_}};have N:=ak (o:=.lst (List.replicate (t.arms.length:Int).toNat [V.int 0]).flatten) L hg;have e0:(List.replicate (t.arms.length:Int).toNat [V.int 0]).flatten=(iF t).map V.int:=by
   unfold iF;rw[pu,List.map_replicate];generalize t.arms.length=j
   induction j with|zero=>rfl|succ j ih=>rw[sD,MQ,ih,sD];rfl
  rw[e0]at N⊢;have R:∀x∈mO t.nm t.arms (iF t),x.2=0:=λx W=>by obtain⟨p,hp,rfl⟩:=k_.mp W;show NH (MM hp).2
  have X:=vK (S:=l.S) R;show{M.setT j {t with clo:=true},Z,c,i,j,l,{t with clo:=true},g,iF t,(),e.same N,hc,u,hl,hh,.inl (aW.of ag),MN,λx W=>by rw[NH W];show Oa _,λas r us Z' H4 aa ac z ad al=>?_,λan=>absurd X (by change¬jE l.S (mO t.nm t.arms (iF t))<=0;have:jE l.S (mO t.nm t.arms (iF t))>_:=an;lia)};have y:=C.trans (gw.of N);show q r us Z' H4 (y.trans aa) ac (y.dm _ z) ad al
end
def ee(bs:OL)(g:Str):List Str:=if g∈bs then bs else bs++[g]
def DI(bs:OL)(g:Str):cL (bs.map λg=>((.inr g:bK),V.bl true)) (.inr g) (.bl true)=(ee bs g).map λg=>((.inr g:bK),V.bl true):=by
 unfold ee
 by_cases h:g∈bs
 ·rw[i_ h];unfold cL;rw[i_ (by rw[List.any_map,NP];show{g,h,by simp}),s_];show E2 λx _=>?_;change(if((.inr x:bK))=.inr g then((.inr x:bK),V.bl true)else _)=_
  split<;>rfl
 ·rw[iA h,pC,ir]
  ·rfl
  ·have:∀cs:List Str,g∉cs->aX (cs.map λg=>((.inr g:bK),V.bl true)) (.inr g)=none:=by
    intro cs
    induction cs with|nil=>intro _;rfl|cons x r b=>intro hn;rw[n_,bG λe=>hn (by rw[<-p5 e];show mo)];show b λz=>hn (j_ _ z)
   show this bs h
theorem D8:∀{l:List g},(l.map f).Nodup->∀x∈l,∀y∈l,f x=f y->x=y
 |[],_,x,b,_,_,_=>nomatch b|z::r,h,x,b,y,c,e=>by
  rw[n_,NZ]at h;rcases so.mp b with q|q<;>rcases so.mp c with p|p
  ·rw[q,p]
  ·show absurd (k_.mpr {y,p,by rw[<-e,q]}) h.1
  ·show absurd (k_.mpr {x,q,by rw[e,p]}) h.1
  ·show D8 h.2 x q y p e
def ze(l:cb)(t:du)(g:Str):List Str:=if∃x∈l.ins,x.1=g/\x.2.1=t.nm then[g]else[]
noncomputable def Am(M:bq)(i j:Nat)(l:cb)(t:du)(g:Str):bq:=(M.setT j {t with bar:=ee t.bar g}).setL i {l with ins:=dI l.ins (ze l t g)}
inductive KU(P:OK)(w:World)(K:OF)(a:f8)(vs:List V)(H:Hp)(Q:VK)(E:XK):Prop|mk(M:bq)(Z:ZS)(c i j:Nat)(l:cb)(t:du)(g:Str)(_:vs=[.ref (Z.G .hh),.str g,.str t.nm])(_:dn P w K a H M Z c)(_:c<=63)(_:M.trs[j]?=some t)(_:M.las[i]?=some l)(_:l.nm=t.home)(_:uP g)(_:∀(r:Addr)(us:List V)(Z':ZS)(H':Hp),gw H M Z H' (Am M i j l t g) Z'->dn P w K a H' (Am M i j l t g) Z' (c+1)->H r=none->H' r=some (.lst us)->Z'.ds=Z.ds->Q (.ref r) H')
section
def sd(T:Txt K mg a):aT P w K mg base d0 2 a.eD.x a.eD.d ["self","guest","name"] (KU P w K a):=by
 show T.eD.ok iz λax A outer s H vs Q E n h=>?_
 ·obtain⟨M,Z,c,i,j,l,t,g,rfl,p,hc,B,C,hh,hg,q⟩:=h;show{_,(ah (bn 3 iz.nd (cF (bv n) (aL K () (Y 0)) (Y 2) (λ_ _=>()))) (ah (bn 4 iz.nd (cF (bv n) (aL K () (Y 0)) (aL K () (Y 3)) (λ_ _=>()))) (ah (gP dU (i9 (aL K () (Y 3)) (Y 1) (lQ (bv n)))) (ah (aK (PW.pt (jM (i7 (ou (bv n) (Y 1) (aL K () (Y 4))) ()) (iH (aC aQ (cA K (cF (bv n) (aL K () (Y 4)) (Y 1) (λ_ _=>())) af) (Y 2) (aE _))))) (ai (az (bw (Y 0) T.aF T.cH.m ((ko (P:=P) (w:=w) T).mono (by decide)) n T.cH.b .nil bj (O (Y 4) (O (bf (O (Y 1) ae)) ae))))) aD) (ai (az (bf ae))))))),?_}
  have ac:=g_ B;have hL:=p.ok.la l (g_ C);have D:=p.g.trial B;have F:=p.ok.lget (Z:=Z) C;rw[hh]at F;show iN p.g.house T.aF T.bg () () (U () (rG (.ref (Z.G (.tr j))) (by rw[<-p.ok.tget (Z:=Z) B];show dq.k (k:=.inr t.nm) p.g.tris) (au ?_)));show iN p.g.house T.aF T.a9 () () (iN D T.bC T.jS () () (rG (.ref (Z.G (.lo i))) (by rw[<-F];show dq.k (k:=.inr t.home) p.g.lays) (au ?_)));have I:=p.ok.br t ac;show iN D T.bC T.iD () () (U () {Z.G (.ba j),_,.inr g,(),(),p.g.barred B,by rw[b_,ji];lia,?_});rw[DI];have a2:=j6 (t':={t with bar:=ee t.bar g}) B;obtain⟨f,v⟩:=(p.mono (sf c)).setTr (t':={t with bar:=ee t.bar g}) (r0:=.ba j) (o':=.dK ((ee t.bar g).map λg=>((.inr g:bK),V.bl true))) B () () () () () (by change(ee t.bar g).length<=c+1;unfold ee;split;show p6 I;rw[j1];show y_ I) (.inr {(),(),(),()}) (by simp only[cont,j6 B];rfl);generalize aH H (Z.G (.ba j)) (.dK ((ee t.bar g).map λg=>((.inr g:bK),V.bl true)))=H1 at f v⊢;have J:=f.g.layer C;have L:=f.g.inside C;have N:=f.g.seats i l C;show U () (iN J T.cr T.bT () () (rG (aX (Z.iv i) (.inr g)) (dq.k (k:=.inr g) L) (U () ?_)));have u:ze l t g=[]->∀r,H1 r=none->Q (.ref r) (aH H1 r (.lst [])):=λe r n=>by
   have R:=ak (o:=.lst []) (ao.refl _) n;have em:Am M i j l t g=M.setT j {t with bar:=ee t.bar g}:=by unfold Am;rw[e,kX];show mS (M:=M.setT j {t with bar:=ee t.bar g}) C
   show q r [] Z _ (em▸v.trans (gw.of R)) (em▸f.same R) (v.dm _ n) ag ()
  by_cases z:g∈l.ins.map (·.1)
  ·obtain⟨x,hx,ex⟩:=k_.mp z;obtain⟨s,hv,ad⟩:=N.find hL.nd x hx;rw[ex]at hv;rw[hv];show bh (iN J T.cr T.bT () () (U () (rG (.ref s) (by rw[<-hv];show dq.k (k:=.inr g) L) (rX ad (aj (k:=0) ()) (U () {(),U () ?_})))))
   by_cases hq:x.2.1=t.nm
   ·have S:ze l t g=[g]:=i_ (x,hx,ex,hq,);rw[hq];show aZ (nM f.g.house () () (U () (U () {ls (),λDg al=>?_})));have R:=ak (o:=.lst [.str g]) (ao.refl _) al;show{M.setT j {t with bar:=ee t.bar g},Z,c+1,i,l,Dg,[g],(),f.same R,C,ag,λy W=>by rw[List.mem_singleton.mp W];show z,by simp,by simp,λr us Z6 H6 an ap n as X=>?_};have em:Am M i j l t g=(M.setT j {t with bar:=ee t.bar g}).setL i {l with ins:=dI l.ins [g]}:=by unfold Am;rw[S]
    have aa:=v.trans (gw.of R);show q r us Z6 H6 (em▸aa.trans an) (em▸ap) (aa.dm _ n) as X
   ·have S:ze l t g=[]:=iA λ⟨y,W,e1,e2⟩=>hq (by rw[<-D8 hL.nd y W x hx (e1.trans ex.symm)];show e2)
    show eS hq {ls (),u S}
  ·have S:ze l t g=[]:=iA λ⟨y,W,e1,e2⟩=>z (k_.mpr (y,W,e1,));rw[N.none z];show bV {ls (),u S}
end
def xx(M:bq)(nm:Str)(sl:Int):bq:={M with las:=M.las++[{nm,sl,AS.new,[]}]}
def xv(M:bq)(t:du):bq:={M with trs:=M.trs++[t]}
section
variable{M:bq}{c:Nat}
def j0.addL(h:j0 M c){nm:Str}{sl:Int}(g:Wd nm)(hn:nm∉M.las.map cb.nm)(i:0<=sl/\sl<=M.p)(h4:M.las.length<4):j0 (xx M nm sl) c:=by
 have em:(M.las++[({nm,sl,AS.new,[]}:cb)]).map cb.nm=M.las.map cb.nm++[nm]:=by rw[ir];rfl
 show{h with ln:=?_,la:=λl j=>?_,tr:=λt d=>{h.tr t d with hm:=?_},l4:=by change(M.las++[_]).length<=4;rw[j1];show h4}
 ·change((M.las++[({nm,sl,AS.new,[]}:cb)]).map cb.nm).Nodup;rw[em,ov];show{h.ln,by simp,λx b y m e=>hn (by rw[<-List.mem_singleton.mp m,<-e];show b)}
 ·rcases List.mem_append.mp j with q|q
  ·show{h.la l q with}
  ·rw[List.mem_singleton.mp q];show{g,i,AS.new_ok _,np _,λx b=>(nomatch b),MT,λk q n=>(nomatch n)}
 ·change t.home∈(M.las++[({nm,sl,AS.new,[]}:cb)]).map cb.nm;rw[em];show ol _ (h.tr t d).hm
def j0.addT(h:j0 M c){t:du}(ok:Hv M t)(hn:t.nm∉M.trs.map du.nm)(h4:M.trs.length<10)(g:t.bar=[]):j0 (xv M t) c:=by
 show{h with tn:=?_,la:=λl d=>?_,tr:=λx b=>?_,tc:=by change(M.trs++[_]).length<=10;rw[j1];show h4,br:=λx b=>?_}
 ·change((M.trs++[t]).map du.nm).Nodup;rw[ir,ov];show{h.tn,by simp,λx b y i e=>hn (by rw[<-show y=t.nm from List.mem_singleton.mp i,<-e];show b)}
 ·have q:=h.la l d;show{q with own:=λk z j=>?_};rcases q.own k z j with e|⟨x,b,e⟩
  ·show .inl e
  ·show .inr {x,ol _ b,e}
 ·rcases List.mem_append.mp b with q|q
  ·show{h.tr x q with}
  ·rw[List.mem_singleton.mp q];show{ok with}
 ·rcases List.mem_append.mp b with q|q
  ·show h.br x q
  ·rw[List.mem_singleton.mp q,g];show np _
end
inductive BE(P:OK)(w:World)(K:OF)(a:f8)(vs:List V)(H:Hp)(Q:VK)(E:XK):Prop|mk(M:bq)(Z:ZS)(c:Nat)(nm:Str)(sl:Int)(_:vs=[.ref (Z.G .hh),.str nm,.int sl])(_:dn P w K a H M Z c)(_:Wd nm)(_:nm∉M.las.map cb.nm)(_:(0<=sl/\sl<=M.p))(_:M.las.length<4)(_:∀(r:Addr)(Z':ZS)(H':Hp),gw H M Z H' (xx M nm sl) Z'->dn P w K a H' (xx M nm sl) Z' c->H r=none->H' r=some (.lst [])->Z'.ds=Z.ds->Q (.ref r) H')
inductive BD(P:OK)(w:World)(K:OF)(a:f8)(vs:List V)(H:Hp)(Q:VK)(E:XK):Prop|mk(M:bq)(Z:ZS)(c:Nat)(H0:Hp)(t ba dx ar sh:Addr)(ru:V)(x:du)(_:vs=[.ref (Z.G .hh),.str x.nm,.ref t])(_:dn P w K a H0 M Z c)(_:ao H0 H)(_:H0 t=none)(_:H0 ba=none)(_:H ba=some (.dK []))(_:H t=some (.ins a.fX dx [("home",.str x.home),("arms",.ref ar),("rule",ru),("shuts",.ref sh),("paused",.bl false),("closed",.bl false),("barred",.ref ba)]))(_:aS K H0 ar (x.arms.map V.str))(_:dS K H0 x.rule ru)(_:aS K H0 sh (x.shuts.map V.str))(_:x.pau=false)(_:x.clo=false)(_:x.bar=[])(_:Hv M x)(_:x.nm∉M.trs.map du.nm)(_:M.trs.length<10)(_:∀(r:Addr)(Z':ZS)(H':Hp),gw H0 M Z H' (xv M x) Z'->dn P w K a H' (xv M x) Z' c->H0 r=none->H' r=some (.lst [])->Z'.ds=Z.ds->Q (.ref r) H')
section
def pN(T:Txt K mg a):aT P w K mg base d0 5 a.dg.x a.dg.d ["self","name","slope"] (BE P w K a):=by
 show T.dg.ok pb λaa A outer s H vs Q E j h=>?_
 ·obtain⟨M,Z,c,nm,sl,rfl,t,hw,hn,hs,h4,q⟩:=h;show{_,(ah (gP (sE T.Ef ((r9 (P:=P) (w:=w) T).mono (by decide)) j () T.GX T.eC.b .nil bj (O (Y 2) (O (aL K () (Y 0)) ae))) (i9 (aL K () (Y 0)) (Y 1) (lQ (bv j)))) (ai (az (bf ae)))),?_}
  have X:=t.g.house;show U () (iN X T.aF T.cD () () (λlo ty l F ac=>?_));have f2:ao H (aH (aH H ty (.own lo)) lo (.ins a.fw ty [])):=λb o e=>by rw[aq (aG e l),aq (aG e F)];show e
  have m:aH (aH H ty (.own lo)) lo (.ins a.fw ty []) lo=some (.ins a.fw ty []):=ag;generalize aH (aH H ty (.own lo)) lo (.ins a.fw ty [])=H2 at f2 m⊢;show{lo,ty,sl,M.p,(),m,λtb od td iu I u J L N R f3 hL S hu=>{(),?_}};have f:ao H I:=λb o e=>f3 b o (f2 b o e) (aG e l);show iN (f _ _ X) T.aF T.a9 () () (U () {Z.G .ln,_,.inr nm,(),(),f _ _ t.g.lays,by rw[iJ,b_,ji];show n7 h4 (l_ ()),?_});rw[pC _ (jd hn)];have v:∀b,H b=none->b≠Z.G .ln:=λb e z=>by rw[z,t.g.lays]at e;cases e
  have y:=f2.free J;have B:=f2.free L;have C:=f2.free u;have D:=f2.free N;obtain⟨dT,iT⟩:=S.ins;obtain⟨Z',e1,V,e2,W,e4,hG,lv⟩:=t.g.newL (H':=aH I (Z.G .ln) (.dK (jn (M.las.map cb.nm) (λi=>.ref (Z.G (.lo i)))++[(.inr nm,.ref lo)]))) (nm:=nm) (sl:=sl) l D C y B R (λb o e n=>by rw[aq n];show f b o e) ag (by rw[aq (v _ l)];show hL) {{dT,by rw[aq (v _ C)];show iT},by rw[aq (v _ y)];show S.own,by rw[aq (v _ B)];show S.tak,λx k=>(nomatch k),.nil} (λz=>by rw[z,u]at m;cases m) (by rw[aq (v _ D)];show hu)
  show{ls (),λr j=>?_};have s5:=ak (o:=.lst []) (ao.refl _) j;have st:gw H M Z (aH I (Z.G .ln) (.dK (jn (M.las.map cb.nm) (λi=>.ref (Z.G (.lo i)))++[(.inr nm,.ref lo)]))) (xx M nm sl) Z':=by
   show{e1,λb o e n=>by rw[aq λz=>n (.inl {.ln,trivial,z})];show f b o e,λb z=>?_,λb z=>f.free (mn z),V};rcases z with⟨r,j,rfl⟩|⟨i,hi,x,k,e⟩|⟨x,k,e⟩
   ·have j:vj (M.las++[_]).length M.trs.length r:=j;rw[j1]at j;rcases lv r j with q|⟨q,p⟩
    ·show .inr q
    ·show .inl (.inl (r,p,q,))
   ·rw[(W i).1]at k;have hi:i<(M.las++[_]).length:=hi;rw[j1]at hi
    by_cases z:i=M.las.length
    ·rw[i_ z]at k;cases k
    ·rw[iA z]at k;show .inl (.inr (.inl {i,by have:i<M.las.length+1:=hi;lia,x,k,e}))
   ·rw[e4]at k;show .inl (.inr (.inr (x,k,e,)))
  show q r Z' _ (st.trans (gw.of s5)) (dn.same {hG,t.ok.addL hw hn hs h4,λi=>?_,λi=>?_,by rw[e2];show t.ds} s5) (st.dm _ j) ag e2
  ·rw[(W i).1]
   split
   ·show np _
   ·show t.tk i
  ·rw[(W i).2]
   split
   ·show np _
   ·show t.ow i
def pM(T:Txt K mg a):aT P w K mg base d0 4 a.df.x a.df.d ["self","name","trial"] (BD P w K a):=by
 show T.df.ok o9 λV A outer s H vs Q E f h=>?_
 ·obtain⟨M,Z,c,D,t,ba,dx,ar,sh,ru,x,rfl,j,k,l,m,W,X,q1,q2,q3,F,I,B,ok,hn,u,q⟩:=h;show{_,(ah (gP (Y 2) (i9 (aL K () (Y 0)) (Y 1) (lQ (bv f)))) (ai (az (bf ae)))),?_}
  show U () (iN (k _ _ j.g.house) T.aF T.bg () () (U () {Z.G .tn,_,.inr x.nm,(),(),k _ _ j.g.tris,by rw[iJ,b_,ji];show n7 u (l_ ()),?_}));rw[pC _ (jd hn)];have J:∀b,D b=none->b≠Z.G .tn:=λb e z=>by rw[z,j.g.tris]at e;cases e
  obtain⟨L,e1,C,N,O,e4,e5,R,lv⟩:=j.g.newT (H':=aH H (Z.G .tn) (.dK (jn (M.trs.map du.nm) (λi=>.ref (Z.G (.tr i)))++[(.inr x.nm,.ref t)]))) (nm:=x.nm) (home:=x.home) (arms:=x.arms) (shuts:=x.shuts) (rule:=x.rule) l m (λb o e n=>by rw[aq n];show k b o e) ag (by rw[aq (J _ l)];show X) (by rw[aq (J _ m)];show W) q1 q2 q3;have ex:({x.nm,x.home,x.arms,x.rule,x.shuts,false,false,[]}:du)=x:=by obtain⟨a1,a2,a3,a4,a5,a6,a7,a8⟩:=x;simp only at F I B;rw[F,I,B]
  rw[ex]at R;show{ls (),λr f=>?_};have S:=ak (o:=.lst []) (ao.refl _) f;have st:gw D M Z (aH H (Z.G .tn) (.dK (jn (M.trs.map du.nm) (λi=>.ref (Z.G (.tr i)))++[(.inr x.nm,.ref t)]))) (xv M x) L:=by
   show{e1,λb o e n=>by rw[aq λz=>n (.inl {.tn,trivial,z})];show k b o e,λb z=>?_,λb z=>k.free (mn z),C};rcases z with⟨r,f,rfl⟩|⟨i,hi,y,v,e⟩|⟨y,v,e⟩
   ·have f:vj M.las.length (M.trs++[_]).length r:=f;rw[j1]at f;rcases lv r f with q|⟨q,p⟩
    ·show .inr q
    ·show .inl (.inl (r,p,q,))
   ·rw[O]at v;show .inl (.inr (.inl (i,hi,y,v,e,)))
   ·rw[e5]at v;show .inl (.inr (.inr (y,v,e,)))
  show q r L _ (st.trans (gw.of S)) (dn.same {R,j.ok.addT ok hn u B,λi=>by rw[O];show j.tk i,λi=>by rw[e4];show j.ow i,by rw[N];show j.ds} S) (st.dm _ f) ag N
end
section
def pJ(T:Txt K mg a):aT P w K mg base d0 1 a.c7.x a.c7.d ["self","place"] (BB P w K a.bQ):=by
 show T.c7.ok oY λc A outer s H i Q E e h=>?_
 ·obtain⟨t,f,j,n,ow,tk,m,p,rfl,b,q⟩:=h;show{_,(ai (az (tX (bv e) (aL K () (Y 0)) (Y 1) {(),(),(),()}))),?_};obtain⟨dx,g⟩:=b.ins;show U () {t,_,dx,_,U () {g,T.bD,T.eJ,(),f,(),.inl {_,.inl b.own},U () {_,dq.k (k:=.inl p) b.own,q}}}
end
def HD(h:Wd x):PyData.strOk x=true:=by obtain⟨_,_,h⟩:=h;unfold PyData.strOk;rw[<-Array.all_toList,Ng];intro c hc;have b:∀c∈pQ.cps.toList,decide (c<1114112)=true:=dk ();have:=l_ (b c (h c hc));simp;lia
structure sy(P:OK)(w:World)(K:OF)(a:f8)(H0 H:Hp)(M:bq)(Z:ZS)(c:Nat):Prop where
 z:dn P w K a H0 M Z c
 k:∀b o,H0 b=some o->b≠Z.G .ln->H b=some o
section
variable{P:OK}{w:World}{K:OF}{a:f8}{f H A:Hp}{M:bq}{Z:ZS}{c:Nat}
def sy.same(h:sy P w K a f H M Z c)(s:ao H A):sy P w K a f A M Z c:={h.z,λb o e n=>s _ _ (h.k b o e n)}
def sy.kp(h:sy P w K a f H M Z c):Kp f H:={λu d e=>h.k _ _ e λz=>(by rw[z,h.z.g.lays]at e;cases e),λu o⟨b,e⟩=>{b,h.k _ _ e λz=>by rw[z,h.z.g.lays]at e;cases e}}
theorem sy.at_(h:sy P w K a f H M Z c)(e:cont P w a M Z r=some o)(n:r≠.ln):H (Z.G r)=some o:=h.k _ _ (h.z.g.at_ r o e) λz=>n (h.z.g.inj r .ln _ _ e () z)
def Je{p:Nat}{m sl:Int}{x:Str}(e:2<=p):0<=tT p m sl x/\tT p m sl x<p:=by
 unfold tT;have h:(0:Int)<(p:Int):=by lia
 split
 ·show{M5 _ (by lia),M7 _ h}
 ·show{M5 _ (by lia),M7 _ h}
def sy.owner(h:sy P w K a f H M Z c){i:Nat}{l:cb}(e:M.las[i]?=some l){q:Int}(s:0<=q)(u:q<M.p):(aX (Z.ow i) (.inl q)).getD .non=.non\/∃b x y,(aX (Z.ow i) (.inl q)).getD .non=.ref b/\aS K H b [.str x,.str y]/\((x=""/\y="")\/∃(j:Nat)(t:du),M.trs[j]?=some t/\t.nm=x/\(Wd y/\Wd t.nm/\y∈t.arms/\t.home=l.nm/\q∈l.S.pl (cQ t.nm y))):=by cases B:aX (Z.ow i) (.inl q)with|none=>show .inl ()|some v=>
  show .inr ?_;obtain⟨k,m,n⟩:=(h.z.g.tabs i l e).2.2.1 q v s u B;rcases(h.z.ok.la l (g_ e)).own k q m with rfl|⟨t,o,hh,y,r,rfl⟩
  ·obtain⟨b,rfl,d⟩:=n;show{b,_,U () {h.kp.tq d,.inl {(),()}}}
  ·obtain⟨b,rfl,d⟩:=n;obtain⟨j,C⟩:=iq.mp o;have tk:=h.z.ok.tr t o;show{b,_,U () {h.kp.tq d,.inr {j,t,C,(),tk.aw y r,tk.wd,r,hh,m}}}
end
def Hq{cs:List Bool}(h:cs.any id=false){b:Bool}(m:b∈cs):b=false:=by cases b with|false=>rfl|true=>rw[NP.mpr {true,m,()}]at h;cases h
structure Kj(M:bq)(l:cb)(g:Str)(ms:List (Str×Int))(bs:OL)(t:du)(y:Str):Prop where
 mem:t∈M.trs
 arm:y∈t.arms
 home:t.home=l.nm
 at_:tT M.p M.salt l.sl g∈l.S.pl (cQ t.nm y)pau:t.pau=false
 bar:g∉t.bar
 sat:t.rule.sat ms=true
 shut:∀n∈t.shuts,n∉bs
theorem Bf{g:Str}:∀{bs:OL},(aX (bs.map λg=>((.inr g:bK),V.bl true)) (.inr g)).isSome=false->g∉bs
 |[],_,z=>nomatch z|b::r,h,z=>by
  rw[n_]at h
  by_cases e:b=g
  ·rw[ce (by rw[e])]at h;cases h
  ·rw[bG (λq=>e (p5 q))]at h;show(so.mp z).elim (λq=>e q.symm) (Bf h)
inductive IE(P:OK)(w:World)(K:OF)(a:f8)(vs:List V)(H:Hp)(Q:VK)(E:XK):Prop|mk(H0:Hp)(M:bq)(Z:ZS)(c i:Nat)(l:cb)(g:Str)(mv:V)(ms:List (Str×Int))(bl:Addr)(bs:OL)(_:vs=[.ref (Z.G .hh),.ref (Z.G (.lo i)),.str g,mv,.ref bl])(_:sy P w K a H0 H M Z c)(_:M.las[i]?=some l)(_:uP g)(_:lE K H ms mv)(_:ms.length<=8)(_:H bl=some (.lst (bs.map V.str)))(_:(∀H',ao H H'->Q .non H'))(_:∀(s:Addr)(t:du)(y:Str)(H':Hp),ao H H'->aS K H' s [.str t.nm,.str y]->Kj M l g ms bs t y->Q (.ref s) H')
section
def pK(T:Txt K mg a):aT P w K mg base d0 8 a.c9.x a.c9.d ["self","layer","guest","marks","been"] (IE P w K a):=by
 show T.c9.ok gx λcc A outer s H vs Q E W h=>?_
 ·obtain⟨H0,M,Z,c,i,l,g,mv,ms,bl,bs,rfl,I,L,hg,hm,ci,a5,X,qs⟩:=h;show{_,(ah (bn 5 gx.nd (bw (aL K () (Y 1)) T.bD T.c7.m ((pJ (P:=P) (w:=w) T).mono (by decide)) W T.c7.b .nil bj (O (bw (Y 0) T.aF T.cn.m ((jC (P:=P) (w:=w) T).mono (by decide)) W T.cn.b .nil bj (O (Y 1) (O (Y 2) ae))) ae))) (ah (aK (PW.pt (fb (aC DT (Y 5) jN (aE _)) (dP (aC (GH K () (Mp W)) (Y 5) (ck (v:=.ref a.uM) {_,T.Ew,()} ()) (aE _))))) (ai (az jN)) aD) (ah (bn 6 gx.nd (cF (bv W) (aL K () (Y 0)) (cA K (Y 5) af) (λ_ _=>()))) (ah (aK (PW.pt (fb (aR K () (aL K () (Y 6)) (λ_=>())) (fb (i7 (ou (bv W) (Y 2) (aL K () (Y 6))) ()) (dP (cx (aR K () (aP ((yt T 6).mono (by decide)) W () T.dW.m T.dW.f.kp T.dW.b .nil bj (O (aL K () (Y 6)) (O (Y 3) ae))) (λ_=>()))))))) (ai (az jN)) aD) (ah (aK (aR K () (aA (nj K () ()) (by rfl) T.AU L2.p7 (O (uu gW ["name"] [] [7] (am gO) (bW 7) (gC K () (aL K () (Y 6))) (λcl C s₀ H₀ ex=>{(lF gW ["name"] 7),bR,(bL (mi K ()) (Y 7) (Y 4) (by with_unfolding_all rfl))})) ae)) (λ_=>())) (ai (az jN)) aD) (ai (az (Y 5)))))))),?_}
  have N:=I.z;have hL:=N.ok.la l (g_ L);have hp:=N.ok.p;have a6:=hL.sl;have hI:=I.at_ (r:=.hh) () (by simp);have aa:=I.at_ (r:=.lo i) (by simp only[cont,L];rfl) (by simp);have ac:=I.at_ (r:=.tb i) (by simp only[cont,L];rfl) (by simp);have a7:=I.at_ (r:=.od i) (by simp only[cont,L];rfl) (by simp);have a8:=I.at_ (r:=.td i) (by simp only[cont,L];rfl) (by simp);have bb:=I.at_ (r:=.tn) () (by simp);show iN aa T.cr T.gF () () (rM ac () (nM hI () () (U () (U () {Z.G .hh,Z.G (.lo i),_,_,_,_,M.p,M.salt,l.sl,g,(),hI,(),(),aa,(),hg,{by lia,by lia},{by show a6.1,by lia},λH1 q=>?_}))));obtain⟨bc,⟨m,bi,cK⟩,cS,c0⟩:=N.g.tabs i l L;have o:=I.same q;have ad:eX P w K a.bQ H1 (Z.G (.tb i)) (Z.G (.od i)) (Z.G (.td i)) M.p (Z.ow i) (Z.tk i) m:={{_,q _ _ ac},q _ _ a7,q _ _ a8,λx hx=>eL o.kp (bc x hx),bi.outs λx hx lb xs e1 e2=>o.k _ _ e2 λz=>by rw[z,N.g.lays]at e2;cases e2};have hq:=Je (m:=M.salt) (sl:=l.sl) (x:=g) hp.1;show{Z.G (.tb i),Z.G (.od i),Z.G (.td i),M.p,Z.ow i,Z.tk i,m,tT M.p M.salt l.sl g,(),ad,au ?_};rcases o.owner L hq.1 hq.2 with e|⟨b,x,y,e,hb,al⟩
  ·rw[e];show U () {(),U () (bh (bh (X _ q)))}
  rw[e];show U () {(),U () (bV ?_)};have an:PyData.strOk x=true/\PyData.strOk y=true:=by
   rcases al with⟨rfl,rfl⟩|⟨j,t,R,rfl,h1,h2,_⟩
   ·show{by decide+kernel,by decide+kernel}
   ·show{HD h2,HD h1}
  show U () {.tuple [.str x,.str y],.tuple [.str "",.str ""],.tup hb (.cons (.str x) (.cons (.str y) .nil)),.tup (T.A3.sq _) (.cons (.str _) (.cons (.str _) .nil)),?_,by decide+kernel,U () ?_}
  ·unfold SeqAt.shaped;simp[PyData.canLay0,PyData.canLayAll0,PyData.depth,PyData.depthAll,an.1,an.2]
  show sk (λ_=>X _ q) (λef=>?_);rcases al with⟨rfl,rfl⟩|⟨j,t,R,rfl,_,_,hy,hh,bt⟩
  ·show absurd ef (dk ())
  have ap:=q _ _ bb;have J:=o.at_ (r:=.tr j) (by simp only[cont,R];rfl) (by simp);have bz:=o.at_ (r:=.ba j) (by simp only[cont,R];rfl) (by simp);obtain⟨-,b0,as⟩:=N.g.trs j t R;have ax:=N.ok.tr t (g_ R);show iN (q _ _ hI) T.aF T.bg () () (U () (rX hb (aj (k:=0) ()) (rG (.ref (Z.G (.tr j))) (by rw[<-N.ok.tget (Z:=Z) R];show dq.k (k:=.inr t.nm) ap) (au ?_))));show iN J T.bC T.iB () () {t.pau,(),?_};show sk (λ_=>bh (X _ q)) (λe1=>?_);show U () (iN J T.bC T.iD () () (rG _ (dq.k (k:=.inr g) bz) (U () ?_)));show sk (λ_=>bh (X _ q)) (λe2=>?_);show iN J T.bC T.nS () () (U () {t.rule,Z.ru j,ms,mv,(),b0.kp o.kp,ax.hg,hm.kp (.of q),by lia,λH2 s2=>(U () ?_)});have u:=q.trans s2;show sk (λ_=>X _ u) (λe3=>?_);have a2:=I.same u;show iN (s2 _ _ J) T.bC T.mq () () {Z.sh j,(),{_,a2.kp.tq as},λD hD=>?_};have a3:=u _ _ a5;have h8:=ax.s8;show gK (K:=K) (a:=Z.sh j) (xs:=t.shuts.map V.str) (λk B H'=>ao H2 H'/\H' D=some (.lst B)/\∃cs:List Bool,B=cs.map V.bl/\Paired (λ(b:Bool)(x:Str)=>b=false->x∉bs) cs (t.shuts.take k)) {ak (ao.refl _) hD,ag,[],(),.nil} (λk B H' _ h=>ao.tseq h.1 (a2.kp.tq as)) ?_ ?_
  ·rintro k v B H3 hv⟨s3,S,cs,rfl,F⟩;have hk:k<(t.shuts.map V.str).length:=(d_.mp hv).1;rw[ig]at hv;obtain⟨x,hx,rfl⟩:=Option.map_eq_some_iff.mp hv;have c1:cs.length<=k:=by rw[Paired.length F];show E_ _ _
   show au (iy (bh (U () (U () {bl,U () {.inl (aW.of (s3 _ _ a3)),(),mQ bs,S,?_,lf hk {bu s3 hD,ag,cs++[_],by rw[ir];rfl,by rw[cg hx];show tS F (.cons (λe m=>by rw[EI m]at e;cases e) .nil)}}}))));rw[b_]at hk⊢;rw[ji];lia
  ·rintro B H3⟨s3,S,cs,rfl,F⟩;show{D,cs,(),aW.of S,U () ?_};show sk (λ_=>X _ (u.trans s3)) (λea=>?_);rw[b_,ku (e_ _)]at F;show U () (qs b t y _ (u.trans s3) (ao.tseq (s2.trans s3) hb) {g_ R,hy,hh,bt,e1,Bf e2,by simpa using e3,λn hn=>?_});obtain⟨i,hi⟩:=iq.mp hn;obtain⟨b',b8,b9⟩:=oq F i n hi;show b9 (Hq ea (g_ b8))
end
def LJ(J:St->Hp->Prop)(h1:∀c H,J c H->u D c H)(h2:∀N:St->Hp->Prop,(∀c H,J c H->N c H)->t {D with nx:=N} c H):rK t u D c H:=h2 (u D) h1
def cC(l:cb)(g:Str):Option (Str×Str):=(l.ins.find? λx=>decide (x.1=g)).map (·.2)
def iW(M:bq)(g:Str):List (Str×Str×Str):=M.las.filterMap λl=>(cC l g).map λp=>(l.nm,p.1,p.2)
def uH(K:OF)(H:Hp)(c:V):Option (Str×Str)->Prop|none=>c=.non|some p=>∃s,c=.ref s/\aS K H s [.str p.1,.str p.2]
def uH.kp(e:Kp H H')(h:uH K H c o):uH K H' c o:=by cases o with|none=>show h|some p=>obtain⟨s,h1,h2⟩:=h;show{s,h1,e.tq h2}
def bX.seat(g:Str)(h:bX K H iv ins):uH K H ((aX iv (.inr g)).getD .non) ((ins.find? λx=>decide (x.1=g)).map (·.2)):=by induction h with|nil=>rfl|@cons _ y _ _ h _ b=>
  by_cases e:y.1=g
  ·obtain⟨h1,s,h2,h3⟩:=h;rw[ce (by rw[h1,e]),rk (by simp[e]),h2];show{s,(),h3}
  ·rw[bG (λz=>e (by rw[h.1]at z;show p5 z)),rl (by simp[e])];show b
def fF(K:OF)(H:Hp)(c:List V)(e:List (Str×Str×Str)):Prop:=Paired (λ(u:V)(y:Str×Str×Str)=>∃b,u=.ref b/\aS K H b [.str y.1,.str y.2.1,.str y.2.2]) c e
def fF.kp(e:Kp H H')(h:fF K H c f):fF K H' c f:=Paired.mapP h λ_ _ q=>q.imp λ_ q=>{q.1,e.tq q.2}
def cP(cm:List (Str×List (Str×Str)))(g:Str):List (Str×Str):=((cm.find? λx=>decide (x.1=g)).map (·.2)).getD []
def zd(M:bq)(g:Str)(c:List (Str×Str×Str)):List Str:=(cP M.came g).map (·.1)++c.map (·.2.1)
def Fo{M:bq}{g:Str}{c:List (Str×Str×Str)}{x:Str×Str×Str}:zd M g (c++[x])=zd M g c++[x.2.1]:=by unfold zd;rw[ir,MR];rfl
def Fw(M:bq)(g:Str)(c:List (Str×Int))(l:cb)(bs:OL)(r:Str×Str):Prop:=cC l g=some r\/(cC l g=none/\∃t y,r=(t.nm,y)/\Kj M l g c bs t y)
inductive qd(M:bq)(g:Str)(ms:List (Str×Int)):List cb->List (Str×Str×Str)->Prop|nil:qd M g ms [] []|skip{ls:List cb}{ss:List (Str×Str×Str)}{l:cb}(h:qd M g ms ls ss)(hn:cC l g=none):qd M g ms (ls++[l]) ss|row{ls:List cb}{ss:List (Str×Str×Str)}{l:cb}{r:Str×Str}(h:qd M g ms ls ss)(hr:Fw M g ms l (zd M g ss) r):qd M g ms (ls++[l]) (ss++[(l.nm,r)])
def eR.find{dl:Addr}{cv:List (bK×V)}{cm:List (Str×List (Str×Str))}(g:Str)(h:eR K H dl cv cm):(aX cv (.inr g)=none/\cP cm g=[])\/∃l c,aX cv (.inr g)=some (.ref l)/\l≠dl/\H l=some (.lst c)/\cz K H c (cP cm g)/\(g,cP cm g)∈cm:=by induction h with|nil=>show .inl {(),()}|@cons _ y _ _ h _ d=>
  by_cases e:y.1=g
  ·obtain⟨h1,l,c,h2,n,h3,h4⟩:=h;have b:∀q,cP (y::q) g=y.2:=λq=>by unfold cP;rw[rk (by simp[e])];rfl
   rw[b];show .inr {l,c,by rw[ce (by rw[h1,e]),h2],n,h3,h4,by rw[<-e];show mo}
  ·have b:∀q,cP (y::q) g=cP q g:=λq=>by unfold cP;rw[rl (by simp[e])]
   rw[b,bG (λz=>e (by rw[h.1]at z;show p5 z))];show d.imp id λq=>q.imp λ_ q=>q.imp λ_ q=>{q.1,q.2.1,q.2.2.1,q.2.2.2.1,j_ _ q.2.2.2.2}
inductive Gg(P:OK)(w:World)(K:OF)(a:f8)(vs:List V)(H:Hp)(Q:VK)(E:XK):Prop|mk(M:bq)(Z:ZS)(c:Nat)(g:Str)(mv:V)(ms:List (Str×Int))(_:vs=[.ref (Z.G .hh),.str g,mv])(_:dn P w K a H M Z c)(_:c<=63)(_:uP g)(_:lE K H ms mv)(_:ms.length<=8)(_:∀(r:Addr)(us:List V)(H':Hp),ao H H'->H r=none->H' r=some (.lst us)->∀ss,fF K H' us ss->qd M g ms M.las ss->ss.length<=4->Q (.ref r) H')
def Hf{J:It}{n:Nat}{g:TG}{tb:TS}{D:jl}{c:St}{H:Hp}(Pv:Nat->St->Hp->Prop)(h0:Pv 0 c H)(hg:∀i c H,i<n->Pv i c H->J.go i H)(h:∀i c H x H',i<n->Pv i c H->J.yld i H x H'->∀(N:St->Hp->Prop)(R:VK)(B:St->Hp->Prop),(∀c H,Pv (i+1) c H->N c H)->g x c H' λf j=>tb (N,R,B,N,) f j)(hd:∀c H,Pv n c H->J.stop n H/\D.nx c H):=EX (J:=J) (n:=n) (g:=g) (tb:=tb) (D:=D) Pv h0 hg (λi c H x H' e p y=>h i c H x H' e p y _ D.rt _ λ_ _ q=>q) hd
inductive JV(P:OK)(w:World)(K:OF)(H:Hp)(M:bq)(Z:ZS)(g:Str)(ms:List (Str×Int))(mv:V)(D an:Addr)(ep:Nat)(k:Nat)(σ:St)(H':Hp):Prop|mk(us:List V)(ss:List (Str×Str×Str))(v5 v6 v7:Option V)(f:∀b o,H b=some o->b≠Z.G .ln->H' b=some o)(hl:H' (Z.G .ln)=some (dE P w (Z.G .ln) (jn (M.las.map cb.nm) λi=>.ref (Z.G (.lo i))) ep))(hD:H' D=some (.lst ((zd M g ss).map V.str)))(hA:H' an=some (.lst us))(hs:fF K H' us ss)(hR:qd M g ms (M.las.take k) ss)(hk:ss.length<=k)(e:σ=[some (.ref (Z.G .hh)),some (.str g),some mv,some (.ref D),some (.ref an),v5,v6,v7]):JV P w K H M Z g ms mv D an ep k σ H'
inductive JS(K:OF)(M:bq)(g:Str)(ms:List (Str×Int))(l:cb)(bs:OL)(H5:Hp)(f:V->St)(σ:St)(H':Hp):Prop|no(s:ao H5 H')(e:σ=f .non)(hn:cC l g=none):JS K M g ms l bs H5 f σ H'|yes(b:Addr)(r:Str×Str)(s:ao H5 H')(e:σ=f (.ref b))(hq:aS K H' b [.str r.1,.str r.2])(hr:Fw M g ms l bs r):JS K M g ms l bs H5 f σ H'
section
def mm(T:Txt K mg a):aT P w K mg base d0 9 a.cq.x a.cq.d ["self","guest","marks"] (Gg P w K a):=by
 show T.cq.ok bH λd3 A outer s H vs Q E hr h=>?_
 ·obtain⟨M,Z,c,g,mv,ms,rfl,X,hc,hg,hm,c4,q⟩:=h;show{_,(ah (Ai 3 fO [] [7] [7] (am fL) (bW 7) (c5 K () (tW (bv hr) (aL K () (Y 0)) (Y 1) (bf ae) {(),(),(),()})) (λcl C s₀ H₀ ex=>{(lF fO [] 7),bR,(cA K (Y 7) af)}) bH.nd) (ah (bn 4 bH.nd (bf ae)) (ah (zC (P:=P) (w:=w) (eO o0 () (yh (P:=P) (w:=w) (aL K () (Y 0))) (eU K () () (bd (oK 5 bH.nd) (bd (oK 6 bH.nd) eT))) (ah (bn 7 bH.nd (tX (bv hr) (aL K () (Y 6)) (Y 1) {(),(),(),()})) (ah (aK (aC DT (Y 7) jN (aE _)) (ai (bn 7 bH.nd (bw (Y 0) T.aF T.c9.m ((pK (P:=P) (w:=w) T).mono (by decide)) hr T.c9.b .nil bj (O (Y 6) (O (Y 1) (O (Y 2) (O (Y 3) ae))))))) aD) (ai (aK (aC wN (Y 7) jN (aE _)) (ah (aY (ja K () PySem.F.plainAttrs_list PySem.F.slot_list_append PySem.F.type_list_append fC (Y 3) (O (cA K (Y 7) af) ae))) (ai (aY (ja K () PySem.F.plainAttrs_list PySem.F.slot_list_append PySem.F.type_list_append fC (Y 4) (O (ay (t7 K ()) (aO (O (Y 5) ae)) (Y 7)) ae))))) aD)))))) (ai (az (Y 4)))))),?_}
  have hI:=X.g.house;have d4:=X.ok.l4;show iN hI T.aF T.c6 () () {Z.G .ci,(),.inl {_,.inl X.g.cams},U () {ls (),λl0 da=>?_}};have s0:=ak (o:=.lst []) (ao.refl H) da;have e0:aH H l0 (.lst []) l0=some (.lst []):=ag;generalize aH H l0 (.lst [])=H1 at s0 e0⊢;show{aX Z.cv (.inr g),dq.k (k:=.inr g) (s0 _ _ X.g.cams),?_};obtain⟨ll,J,ev,bc,hw,d5⟩:∃ll J,(aX Z.cv (.inr g)).getD (.ref l0)=.ref ll/\H1 ll=some (.lst J)/\cz K H1 J (cP M.came g)/\(cP M.came g).length<=630:=by
   rcases X.g.came.find g with⟨e,e'⟩|⟨l,us,e,_,h2,h3,h4⟩
   ·show{l0,[],by rw[e];rfl,e0,by rw[e'];show .nil,by rw[e'];show np _}
   ·have:=X.ok.cm _ h4;have:(cP M.came g).length<=10*c:=this;show{l,us,by rw[e];rfl,s0 _ _ h2,h3.kp (.of s0),by lia}
  rw[ev];have dc:J.length=(cP M.came g).length:=Paired.length hw;show{ll,(),{_,aW.of bc},λD hD=>?_};show gj (K:=K) (a:=ll) (xs:=J) (λk L H'=>ao H1 H'/\H' D=some (.lst L)/\L=((cP M.came g).take k).map λy=>V.str y.1) {ak (ao.refl _) hD,ag,()} (λk L H' _ h=>aW.of (h.1 _ _ bc)) ?_ ?_
  ·rintro k v L H3 hv⟨s3,ac,rfl⟩;have hk:k<J.length:=(d_.mp hv).1;obtain⟨y,hy,s,rfl,p⟩:=Paired.at_ hw k v hv;have ec:=E_ k (cP M.came g);show au (iy (bh (U () (rX (ao.tseq s3 p) (aj (k:=0) ()) {ac,by rw[b_,ji];lia,lf hk {bu s3 hD,ag,by rw[cg hy,ir];rfl}}))))
  rintro L H2⟨s2,ad,ea⟩;have eb:L=(zd M g []).map V.str:=by rw[ea,dc,ku (e_ _)];unfold zd;rw[NT,pv,s_];rfl
  rw[eb]at ad;show au {ls (),λan a3=>au ?_};have s3:=ak (o:=.lst []) (ao.refl H2) a3;have bi:aH H2 an (.lst []) an=some (.lst []):=ag;have ac:=s3 _ _ ad;have bl:H D=none:=s0.free hD;have a5:H an=none:=s0.free (s2.free a3);have bt:D≠an:=λz=>by rw[z,a3]at ad;cases ad
  have al:ao H (aH H2 an (.lst [])):=(s0.trans s2).trans s3;generalize aH H2 an (.lst [])=H3 at s3 bi ac al⊢;show iN (al _ _ hI) T.aF T.a9 () () {Z.G .ln,U () {al _ _ X.g.lays,λep=>?_}};have bz:Z.G .ln≠D:=λz=>by have e:=X.g.lays;rw[z,bl]at e;cases e
  have a6:Z.G .ln≠an:=λz=>by have e:=X.g.lays;rw[z,a5]at e;cases e
  show Hf (n:=M.las.length) (JV P w K H M Z g ms mv D an ep) {[],[],_,_,_,λb o e n=>by rw[aq n];show al b o e,ag,by rw[aq (o8 bz)];show ac,by rw[aq (o8 a6)];show bi,.nil,.nil,e_ _,()} (λk σ H' hk h=>by obtain⟨_,_,_,_,_,_,h,_⟩:=h;show{h,by rw[iJ,b_];show hk}) ?_ ?_
  ·rintro k σ H4 x H5 hk⟨S,f,v5,v6,v7,f4,j,bQ,a7,I,aa,a8,rfl⟩⟨T1,kk,vv,di,rfl,rfl,b0⟩N R B hN;have ed:S.length=f.length:=Paired.length I;have ef:(zd M g f).length<=630+k:=by unfold zd;rw[j1,b_,b_];lia
   obtain⟨l,hl⟩:∃l,M.las[k]?=some l:={_,il hk};rw[wX,ig,hl]at b0;obtain⟨rfl,rfl⟩:=Nj (mu b0);have b8:M.las.take (k+1)=M.las.take k++[l]:=cg hl;show fM di λH5 s5 e5=>?_;have e5:H5 T1=some (.tup [.str l.nm,.ref (Z.G (.lo k))]):=e5;have W:sy P w K a H H5 M Z c:={X,λb o e n=>s5 _ _ (f4 b o e n)};show{T1,U () {aS.of e5,(),_,U () (au {_,U () (au {(),?_})})}};have dt:=W.at_ (r:=.lo k) (by simp only[cont,hl];rfl) (by simp);have b9:=W.at_ (r:=.iu k) (by simp only[cont,hl];rfl) (by simp);show iN dt T.cr T.bT () () {Z.G (.iu k),(),.inl {_,.inl b9},U () {aX (Z.iv k) (.inr g),dq.k (k:=.inr g) b9,au ?_}};have cc:=s5 _ _ bQ;have dv:=s5 _ _ a7;show U () {(),U () (Ic (JS K M g ms l (zd M g f) H5 λsv=>[some (.ref (Z.G .hh)),some (.str g),some mv,some (.ref D),some (.ref an),some (.str l.nm),some (.ref (Z.G (.lo k))),some sv]) ?_ ?_)}
   ·intro σ H6 hj;have s6:ao H5 H6:=by cases hj<;>assumption
    have ap:=s6 _ _ cc;have cK:=s6 _ _ dv;have a2:=s6 _ _ (s5 _ _ j);have f6:∀b o,H b=some o->b≠Z.G .ln->H6 b=some o:=λb o e n=>s6 _ _ (s5 _ _ (f4 b o e n));rcases hj with⟨-,rfl,hn⟩|⟨s,⟨t,y⟩,-,rfl,p,dT⟩
    ·show U () {(),U () (bV (hN _ _ {S,f,_,_,_,f6,a2,ap,cK,I.kp (.of (s5.trans s6)),by rw[b8];show aa.skip hn,p6 a8,()}))}
    show U () {(),U () (bh (U () {.inl {(),_,aW.of ap},U () (rX p (aj (k:=0) ()) (rA ap (by rw[b_,ji];lia) ?_))}))};have as:Kp H6 (aH H6 D (.lst ((zd M g f).map V.str++[.str t]))):=.lst ap;have f7:∀b o,H6 b=some o->b≠D->aH H6 D (.lst ((zd M g f).map V.str++[.str t])) b=some o:=cT;have cS:aH H6 D (.lst ((zd M g f).map V.str++[.str t])) D=some (.lst ((zd M g f++[t]).map V.str)):=by rw[ag,ir];rfl
    generalize aH H6 D (.lst ((zd M g f).map V.str++[.str t]))=H7 at as f7 cS⊢;have c0:=f7 _ _ cK (o8 bt);have c1:=f7 _ _ a2 bz;show U () {.inl {(),_,aW.of c0},U () {ls (),λT2 c2=>(U () {T2,s,[.str l.nm],U () {(),aS.of ag,ao.tseq (ak (ao.refl _) c2) (as.tq p),by simp,by rw[ji];simp,λz=>(nomatch z),λ_ T3 dV=>?_}})}};have s9:=ak (o:=.tup ([.str l.nm]++[.str t,.str y])) (ak (o:=.tup [.str l.nm]) (ao.refl H7) c2) dV;have e9:aH (aH H7 T2 (.tup [.str l.nm])) T3 (.tup ([.str l.nm]++[.str t,.str y])) T3=some (.tup [.str l.nm,.str t,.str y]):=ag;generalize aH (aH H7 T2 (.tup [.str l.nm])) T3 (.tup ([.str l.nm]++[.str t,.str y]))=H9 at s9 e9⊢;have c3:=s9 _ _ c0;show rA c3 (by rw[ji];lia) ?_;have kp:Kp H9 (aH H9 an (.lst (S++[.ref T3]))):=.lst c3;show hN _ _ {S++[.ref T3],f++[(l.nm,t,y)],_,_,_,λb o e n=>by rw[aq (aG e a5)];show s9 _ _ (f7 _ _ (f6 b o e n) (aG e bl)),by rw[aq a6];show s9 _ _ c1,by rw[aq bt,Fo];show s9 _ _ cS,ag,tS (I.kp {λu xs e=>kp.1 _ _ (s9 _ _ (as.1 _ _ ((s5.trans s6) _ _ e))),λu o e=>kp.2 _ _ (((Kp.of s9).2 _ _ (as.2 _ _ ((Kp.of (s5.trans s6)).2 _ _ e))))}) (.cons {T3,(),kp.tq (aS.of e9)} .nil),by rw[b8];show aa.row dT,by rw[j1];show y_ a8,()}
   ·intro N' bb;have ax:uH K H _ (cC l g):=(X.g.seats k l hl).seat g;cases eo:cC l g with|some r=>rw[eo]at ax;obtain⟨s,es,p⟩:=ax;rw[es];show bV (bb _ _ (.yes s r (ao.refl _) () (W.kp.tq p) (.inl eo)))|none=>rw[eo]at ax;rw[show(aX (Z.iv k) (.inr g)).getD .non=.non from ax];have d1:=W.at_ (r:=.hh) () (by simp);show bh (nM d1 () () (U () (U () (U () (U () {H,M,Z,c,k,l,g,mv,ms,D,zd M g f,(),W,hl,hg,hm.kp W.kp,c4,cc,λH' s'=>au (bb _ _ (.no s' () eo)),λs t y H' s' p d2=>au (bb _ _ (.yes s (t.nm,y) s' () p (.inr {eo,t,y,(),d2})))})))))
  ·rintro σ H4⟨S,f,v5,v6,v7,f4,j,bQ,a7,I,aa,a8,rfl⟩;rw[Ow]at aa;show{{j,by rw[iJ,b_];show e_ _},Z.G .ln,_,ep,j,?_};have sF:ao H (aH H4 (Z.G .ln) (.dK (jn (M.las.map cb.nm) λi=>.ref (Z.G (.lo i))))):=λb o e=>by
    by_cases z:b=Z.G .ln
    ·rw[z,X.g.lays]at e;rw[z,ag];show e
    ·rw[aq z];show f4 b o e z
   have kp:Kp H4 (aH H4 (Z.G .ln) (.dK (jn (M.las.map cb.nm) λi=>.ref (Z.G (.lo i))))):={λu xs e=>by rw[aq λz=>by rw[z,j]at e;cases e];show e,λu o⟨o',e⟩=>{o',by rw[aq λz=>by rw[z,j]at e;cases e];show e}};show U () (q an S _ sF a5 (by rw[aq (o8 a6)];show a7) f (I.kp kp) aa (by lia))
end
def rR(cm:List (Str×List (Str×Str)))(g:Str)(c:List (Str×Str)):List (Str×List (Str×Str)):=if(cm.any λx=>decide (x.1=g))=true then cm.map (λx=>if x.1=g then(x.1,c)else x)else cm++[(g,c)]
def DG:(rR cm g ss).length<=cm.length+1:=by
 unfold rR
 split
 ·rw[b_];show sf _
 ·rw[j1];show e_ _
def DF(h:x∈rR cm g c):x∈cm\/x.2=c:=by
 unfold rR at h
 split at h
 ·obtain⟨y,b,e⟩:=k_.mp h
  split at e
  ·rw[<-e];show .inr ()
  ·rw[<-e];show .inl b
 ·rcases List.mem_append.mp h with q|q
  ·show .inl q
  ·rw[List.mem_singleton.mp q];show .inr ()
theorem eR.any(g:Str)(h:eR K H dl cv cm):(cv.any λx=>decide (x.1=.inr g))=cm.any λx=>decide (x.1=g):=by induction h with|nil=>rfl|@cons _ y _ _ h _ b=>
  rw[z7,z7,b,h.1]
  congr 1
  by_cases e:y.1=g
  ·rw[m_ e,m_ (by rw[e])]
  ·rw[me e,me λz=>e (p5 z)]
def eR.put(n:l≠dl)(f:H l=some (.lst c))(i:cz K H c j)(h:eR K H dl cv cm):eR K H dl (cL cv (.inr g) (.ref l)) (rR cm g j):=by
 unfold cL rR;rw[h.any g]
 split
 ·rename_i d;clear d
  induction h with|nil=>show .nil|@cons x y _ _ q r k=>
   show .cons ?_ k;obtain⟨h1,q⟩:=q
   by_cases e:y.1=g
   ·have b:x.1=.inr g:=by rw[h1,e]
    dsimp only;rw[i_ b,i_ e];show{h1,l,c,(),n,f,i}
   ·have b:¬x.1=.inr g:=λz=>e (by rw[h1]at z;show p5 z);dsimp only;rw[iA b,iA e];show(h1,q,)
 ·show Paired.snoc h {(),l,c,(),n,f,i}
def DH{cv:List (bK×V)}{k:bK}{v:V}{x:bK×V}(h:x∈cL cv k v):x∈cv\/x.2=v:=by
 unfold cL at h
 split at h
 ·obtain⟨y,b,e⟩:=k_.mp h
  split at e
  ·rw[<-e];show .inr ()
  ·rw[<-e];show .inl b
 ·rcases List.mem_append.mp h with q|q
  ·show .inl q
  ·rw[List.mem_singleton.mp q];show .inr ()
def bX.some(h:bX K H iv ins)(hg:g∈ins.map (·.1)):(aX iv (.inr g)).isSome=true:=by induction h with|nil=>cases hg|@cons _ y _ _ h _ b=>
  by_cases e:y.1=g
  ·rw[ce (by rw[h.1,e])];rfl
  ·rw[bG (λz=>e (by rw[h.1]at z;show p5 z))];rw[n_]at hg;show b ((so.mp hg).resolve_left λq=>e q.symm)
theorem xT{c:Type}:∀{xs:List c}{i:Nat}{x:c},xs[i]?=some x->xs.set i x=xs|[],_,_,h=>by cases h|y::r,0,x,h=>by rw[mu h];rfl|y::r,i+1,x,h=>r_ (y::·) (xT (xs:=r) h)
def m7(M:bq)(g nm:Str):Bool:=M.las.any λl=>decide (l.nm=nm)&&(cC l g).isSome
def cu(M:bq)(g:Str)(c:List (Str×Str×Str)):List (Str×Str):=c.filterMap λr=>if m7 M g r.1=true then none else some r.2
def pT{M:bq}(hn:(M.las.map cb.nm).Nodup){i j:Nat}{l c:cb}(hi:M.las[i]?=some l)(f:M.las[j]?=some c)(e:l.nm=c.nm):i=j:=by show(I_ (l:=M.las.map cb.nm) (by rw[b_];show(d_.mp hi).1) hn).mp ?_;rw[ig,ig,hi,f];show r_ some e
def oE{M:bq}{g:Str}(hn:(M.las.map cb.nm).Nodup){i:Nat}{l:cb}(c:M.las[i]?=some l):m7 M g l.nm=(cC l g).isSome:=by unfold m7;cases e:cC l g with|some r=>show NP.mpr {l,g_ c,by rw[m_ (),e];rfl}|none=>show Ol.mpr λf b z=>?_;obtain⟨j,d⟩:=iq.mp b;rw[nk]at z;have q:=pT hn d c (l_ z.1);rw[q,c]at d;rw[<-mu d,e]at z;cases z.2
def vJ{M:bq}{g:Str}{c:List (Str×Str×Str)}{r:Str×Str×Str}{b:Bool}(h:m7 M g r.1=b):cu M g (c++[r])=cu M g c++if b=true then[]else[r.2]:=by unfold cu;rw[vl,t8,h];cases b<;>rfl
def wH{l:cb}{g:Str}:(cC l g).isSome=true↔g∈l.ins.map (·.1):=by
 unfold cC;rw[Nz]
 constructor
 ·intro h;obtain⟨x,b⟩:=z3.mp h;have c:=List.find?_some b;show k_.mpr {x,List.mem_of_find?_eq_some b,l_ c}
 ·intro h;obtain⟨x,b,e⟩:=k_.mp h;show List.find?_isSome.mpr {x,b,m_ e}
def y6{cm:List (Str×List (Str×Str))}{g c:Str}{j:List (Str×Str)}:cP (rR cm g j) c=if c=g then j else cP cm c:=by
 unfold rR
 split
 ·next h=>induction cm with|nil=>cases h|cons y r i=>
   by_cases e:y.1=g
   ·rw[n_,i_ e]
    by_cases b:c=g
    ·rw[i_ b];unfold cP;rw[rk (by simp[e,b])];rfl
    ·rw[iA b];have ne:¬y.1=c:=λz=>b (by rw[<-z,e]);have q:∀q:List (Str×List (Str×Str)),cP (q.map λx=>if x.1=g then(x.1,j)else x) c=cP q c:=λq=>by induction q with|nil=>rfl|cons z q k=>
       unfold cP at k⊢;rw[n_]
       by_cases d:z.1=c
       ·rw[iA λw=>b (by rw[<-d,w]),rk (by simp[d]),rk (by simp[d])]
       ·rw[rl (by split<;>simp[d]),rl (by simp[d])];show k
     have l:=q r;unfold cP at l⊢;rw[rl (by simp[ne]),rl (by simp[ne])];show l
   ·rw[z7,me e,Bool.false_or]at h;have i:=i h;rw[n_,iA e]
    by_cases f:y.1=c
    ·rw[iA λz=>e (by rw[f,z])];unfold cP;rw[rk (by simp[f]),rk (by simp[f])]
    ·unfold cP at i⊢;rw[rl (by simp[f]),rl (by simp[f])];show i
 ·next h=>
  unfold cP;rw[ND]
  by_cases e:c=g
  ·subst e;rw[i_ (),Of.mpr λx m z=>h (NP.mpr (x,m,z,))];rw[rk (by simp)];rfl
  ·rw[iA e,rl (by simp[o8 e]),List.find?_nil,N8]
def wG(c:List (Str×Str×Str))(nm:Str):Option (Str×Str):=(c.find? λr=>decide (r.1=nm)).map (·.2)
def sx(g:Str)(c:List (Str×Str×Str))(l:cb):List (Str×Str×Str):=if(cC l g).isSome=true then[]else(wG c l.nm).toList.map λr=>(g,r)
def qD(g:Str)(c:List (Str×Str×Str))(l:cb):cb:={l with ins:=l.ins++sx g c l}
def oV{c:List (Str×Str×Str)}{r:Str×Str×Str}{nm:Str}:wG (c++[r]) nm=(wG c nm).or (if r.1=nm then some r.2 else none):=by unfold wG;rw[ND];cases c.find? λr=>decide (r.1=nm)with|some x=>rfl|none=>
  by_cases e:r.1=nm
  ·rw[i_ e,rk (by simp[e])];rfl
  ·rw[iA e,rl (by simp[e])];rfl
def sZ{c:List (Str×Str×Str)}{nm:Str}(h:nm∉c.map (·.1)):wG c nm=none:=by unfold wG;rw[Of.mpr λx b z=>h (k_.mpr {x,b,l_ z})];rfl
def my{g:Str}{c:List (Str×Str×Str)}{l:cb}(h:sx g c l=[]):qD g c l=l:=by unfold qD;rw[h,pv]
def Hu{g:Str}{c:List (Str×Str×Str)}{r:Str×Str×Str}{l:cb}(h:r.1≠l.nm):qD g (c++[r]) l=qD g c l:=by unfold qD sx;rw[oV,iA h,N8]
def Ht{g:Str}{ss:List (Str×Str×Str)}(l:cb):sx g ss l=[]\/∃r,sx g ss l=[(g,r)]/\g∉l.ins.map (·.1):=by unfold sx;cases e:(cC l g).isSome with|true=>show .inl ()|false=>cases wG ss l.nm with|none=>show .inl ()|some r=>show .inr {r,(),λz=>by rw[wH.mpr z]at e;cases e}
structure iw(g:Str)(ss:List (Str×Str×Str))(M M':bq):Prop where
 p:M'.p=M.p
 salt:M'.salt=M.salt
 trs:M'.trs=M.trs
 las:M'.las=M.las.map (qD g ss)came:cP M'.came g=cP M.came g++cu M g ss
 oth:∀g',g'≠g->cP M'.came g'=cP M.came g'
def iw.refl(g:Str)(M:bq):iw g [] M M:={(),(),(),by have:qD g []=id:=funext λl=>my (by unfold sx;split<;>rfl);rw[this,Oz],by rw[show cu M g []=[]from (),pv],λ_ _=>()}
def iw.names{g:Str}{e:List (Str×Str×Str)}{M c:bq}(h:iw g e M c):c.las.map cb.nm=M.las.map cb.nm:=by rw[h.las,s_];rfl
def j0.vis{g:Str}{i:List (Str×Str×Str)}{M f:bq}{c:Nat}(h:j0 M c)(v:iw g i M f)(hg:uP g)(h1:∀x∈f.came,x.2.length<=10*c+4)(h2:f.came.length<=10*c+4):j0 f (c+1):=by
 have j:=v.names;show{by rw[v.p];show h.p,by rw[j];show h.ln,by rw[v.trs];show h.tn,λl m=>?_,λt b=>?_,λx d=>by have:=h1 x d;lia,by rw[v.las,b_];show h.l4,by rw[v.trs];show h.tc,by lia,λt b=>by rw[v.trs]at b;show p6 (h.br t b)}
 ·rw[v.las]at m;obtain⟨l,hm,rfl⟩:=k_.mp m;have k:=h.la l hm;have own:∀k z,z∈l.S.pl k->k=cQ "" ""\/∃t∈f.trs,t.home=l.nm/\∃y∈t.arms,k=cQ t.nm y:=by rw[v.trs];show k.own
  rcases Ht (g:=g) (ss:=i) l with e|⟨r,e,hn⟩
  ·rw[my e];show{k.wd,by rw[v.p];show k.sl,by rw[v.p];show k.ok,p6 k.len,k.gs,k.nd,own}
  ·unfold qD;rw[e];show{k.wd,by rw[v.p];show k.sl,by rw[v.p];show k.ok,by change(_++[_]).length<=c+1;rw[j1];show y_ k.len,λx d=>?_,?_,own}
   ·rcases List.mem_append.mp d with q|q
    ·show k.gs x q
    ·rw[List.mem_singleton.mp q];show hg
   ·change((_++[(g,r)]).map (·.1)).Nodup;rw[ir,ov];show{k.nd,by simp,λx d z n e=>hn (by rw[<-show z=g from List.mem_singleton.mp n,<-e];show d)}
 ·rw[v.trs]at b;have k:=h.tr t b;show{k with hm:=by rw[j];show k.hm}
def iw.row{g:Str}{m:List (Str×Str×Str)}{M f:bq}(v:iw g m M f)(hn:(M.las.map cb.nm).Nodup){i:Nat}{l:cb}{r:Str×Str}{cm:List (Str×List (Str×Str))}(h:M.las[i]?=some l)(s:wG m l.nm=none){b:Bool}(o:(cC l g).isSome=b)(hc:cP cm g=cP f.came g++if b=true then[]else[r])(u:∀c,c≠g->cP cm c=cP f.came c):iw g (m++[(l.nm,r)]) M {f.setL i {l with ins:=l.ins++if b=true then[]else[(g,r)]}with came:=cm}:=by
 show{v.p,v.salt,v.trs,?_,?_,λc n=>(u c n).trans (v.oth c n)}
 ·show J_ λj=>?_;rw[ig];change(f.las.set i _)[j]?=_
  by_cases q:i=j
  ·subst q;rw[w_ (by rw[v.las,b_];show(d_.mp h).1),h];show r_ some ?_;unfold qD sx;rw[oV,s,i_ (),o];cases b<;>rfl
  ·rw[oD q,v.las,ig];cases e:M.las[j]?with|none=>rfl|some d=>show r_ some (Hu λz=>q (pT hn h e z)).symm
 ·change cP cm g=_;rw[hc,v.came,vJ (r:=(l.nm,r)) ((oE hn h).trans o),MR]
structure Bj(M:bq)(g:Str)(ms:List (Str×Int))(ls:List cb)(ss:List (Str×Str×Str)):Prop where
 nd:(ss.map (·.1)).Nodup
 nm:∀r∈ss,r.1∈ls.map cb.nm
 at_:∀(j:Nat)(r:Str×Str×Str),ss[j]?=some r->∃l∈ls,r.1=l.nm/\Fw M g ms l (zd M g (ss.take j)) r.2
 seat:∀l∈ls,cC l g≠none->wG ss l.nm=cC l g
 all:ls.filterMap (λl=>(wG ss l.nm).map λr=>(l.nm,r))=ss
def qd.ok{M:bq}{g:Str}{u:List (Str×Int)}{ls:List cb}{c:List (Str×Str×Str)}(h:qd M g u ls c):(ls.map cb.nm).Nodup->Bj M g u ls c:=by
 induction h with|nil=>showλ_=>{.nil,λr i=>(nomatch i),λj r e=>(nomatch e),λl A=>(nomatch A),()}|@skip ls c l h hn p=>
  intro hd;rw[ir,ov]at hd;have k:=p hd.1;have no:wG c l.nm=none:=sZ λz=>by obtain⟨r,i,e⟩:=k_.mp z;show hd.2.2 _ (k.nm r i) l.nm (List.mem_singleton.mpr ()) e
  show{k.nd,λr i=>by rw[ir];show ol _ (k.nm r i),λj r e=>let⟨b,h1,h2⟩:=k.at_ j r e;{b,ol _ h1,h2},λb d m=>?_,?_}
  ·rcases List.mem_append.mp d with q|q
   ·show k.seat b q m
   ·rw[List.mem_singleton.mp q]at m;show absurd hn m
  ·rw[vl,k.all,t8,no];show pv _|@row ls c l r h i p=>
  intro hd;rw[ir,ov]at hd;have k:=p hd.1;have ne:∀t∈ls.map cb.nm,t≠l.nm:=λt h' e=>hd.2.2 _ h' l.nm (List.mem_singleton.mpr ()) e;have no:wG c l.nm=none:=sZ λz=>by obtain⟨r,i,e⟩:=k_.mp z;show ne _ (k.nm r i) e
  have oth:∀b∈ls,wG (c++[(l.nm,r)]) b.nm=wG c b.nm:=λb d=>by rw[oV,iA λe=>ne _ (k_.mpr {b,d,()}) e.symm,N8]
  have own:wG (c++[(l.nm,r)]) l.nm=some r:=by rw[oV,no,i_ ()];rfl
  show{?_,λx s=>?_,λj x e=>?_,λb d m=>?_,?_}
  ·rw[ir,ov];show{k.nd,by simp,λx s z B e=>?_};obtain⟨y,C,rfl⟩:=k_.mp s;show ne _ (k.nm y C) (e.trans (List.mem_singleton.mp B))
  ·rw[ir];rcases List.mem_append.mp s with q|q
   ·show ol _ (k.nm x q)
   ·rw[List.mem_singleton.mp q];show ot _ (List.mem_singleton.mpr ())
  ·by_cases o:j<c.length
   ·rw[t6 o]at e;rw[Oy (z4 o)];obtain⟨b,h1,h2⟩:=k.at_ j x e;show{b,ol _ h1,h2}
   ·have o:c.length<=j:=Ov o;rw[G_ o]at e;have h0:j-c.length=0:=by cases q:j-c.length with|zero=>rfl|succ n=>rw[q]at e;cases e
    rw[h0]at e;obtain rfl:=mu e;have D:j=c.length:=by lia
    rw[D,Oy (e_ _),ku (e_ _)];show{l,ot _ (List.mem_singleton.mpr ()),(),i}
  ·rcases List.mem_append.mp d with q|q
   ·rw[oth b q];show k.seat b q m
   ·rw[List.mem_singleton.mp q]at m⊢;rw[own];rcases i with e|⟨e,_⟩
    ·show e.symm
    ·show absurd e m
  ·rw[vl,t8,own,show ls.filterMap (λb=>(wG (c++[(l.nm,r)]) b.nm).map λr=>(b.nm,r))=c from ?_]
   ·rfl
   ·show Eq.trans ?_ k.all;have v:∀f:cb->Option (Str×Str×Str),ls.filterMap f=(ls.map f).filterMap id:=λf=>by rw[Nu];rfl
    rw[v,v,E2 λb d=>by rw[oth b d]]
inductive FQ(P:OK)(w:World)(K:OF)(a:f8)(vs:List V)(H:Hp)(Q:VK)(E:XK):Prop|mk(M:bq)(Z:ZS)(c:Nat)(g:Str)(mv:V)(ms:List (Str×Int))(_:vs=[.ref (Z.G .hh),.str g,mv])(_:dn P w K a H M Z c)(_:c<=63)(_:uP g)(_:lE K H ms mv)(_:ms.length<=8)(_:∀(r:Addr)(us:List V)(ss:List (Str×Str×Str))(M':bq)(Z':ZS)(H':Hp),qd M g ms M.las ss->iw g ss M M'->gw H M Z H' M' Z'->dn P w K a H' M' Z' (c+1)->H r=none->H' r=some (.lst us)->Z'.ds=Z.ds->Q (.ref r) H')
inductive JD(P:OK)(w:World)(K:OF)(a:f8)(H:Hp)(M:bq)(Z:ZS)(c:Nat)(g:Str)(mv:V)(r:Addr)(us:List V)(ss:List (Str×Str×Str))(k:Nat)(σ:St)(H':Hp):Prop|mk(M':bq)(Z':ZS)(v4 v5 v6 v7:Option V)(v:iw g (ss.take k) M M')(hG:bx P w K a H' M' Z')(etk:Z'.tk=Z.tk)(eow:Z'.ow=Z.ow)(eds:Z'.ds=Z.ds)(hcm:∀x∈M'.came,x.2.length<=10*c+k)(hcl:M'.came.length<=10*c+k)(st:gw H M Z H' M' Z')(nF:¬gL M' Z' r)(hr:H' r=some (.lst us))(hs:fF K H' us ss)(e:σ=[some (.ref (Z.G .hh)),some (.str g),some mv,some (.ref r),v4,v5,v6,v7]):JD P w K a H M Z c g mv r us ss k σ H'
section
def pL(T:Txt K mg a):aT P w K mg base d0 10 a.de.x a.de.d ["self","guest","marks"] (FQ P w K a):=by
 show T.de.ok cM λe4 A outer s H vs Q E hr h=>?_
 ·obtain⟨M,Z,c,g,mv,ms,rfl,S,hc,hg,hm,ed,q⟩:=h;show{_,(ah (bn 3 cM.nd (bw (Y 0) T.aF T.cq.m ((mm (P:=P) (w:=w) T).mono (by decide)) hr T.cq.b .nil bj (O (Y 1) (O (Y 2) ae)))) (ah (eO o0 () (c5 K () (Y 3)) (eU K () () (bd (oK 4 cM.nd) (bd (oK 5 cM.nd) (bd (oK 6 cM.nd) eT)))) (ah (bn 7 cM.nd (cF (bv hr) (aL K () (Y 0)) (Y 4) (λ_ _=>()))) (ai (aK (i7 (mV (bv hr) (Y 1) (aL K () (Y 7))) ()) (ah (gP (aO (O (Y 5) (O (Y 6) ae))) (i9 (aL K () (Y 7)) (Y 1) (lQ (bv hr)))) (ai (gP (ay ox (tW (bv hr) (aL K () (Y 0)) (Y 1) (bf ae) {(),(),(),()}) (bf (O (aO (O (Y 5) (O (Y 6) ae))) ae))) (i9 (aL K () (Y 0)) (Y 1) (lQ (bv hr)))))) aD)))) (ai (az (Y 3))))),?_}
  show nM S.g.house () () (U () (U () {M,Z,c,g,mv,ms,(),S,hc,hg,hm,ed,λr us H1 s1 hr c0 ss X hA c1=>au ?_}));have c2:=hA.ok S.ok.ln;have c1:us.length<=4:=by rw[Paired.length X];show c1
  have ef:¬gL M Z r:=S.g.foot hr;show U () {r,(),{_,aW.of c0},?_};show kG (xs:=us) (JD P w K a H M Z c g mv r us ss) {M,Z,_,_,_,_,iw.refl g M,S.g.same s1,(),(),(),S.ok.cm,S.ok.cl,gw.of s1,ef,c0,X,()} (λk σ H' _ h=>by obtain⟨_,_,_,_,_,_,_,_,_,_,_,_,_,_,_,h,_⟩:=h;show aW.of h) ?_ ?_
  ·rintro k v σ H2 hv⟨M2,f,v4,v5,v6,v7,v2,F,a5,a6,aa,ac,c3,ad,al,an,W,rfl⟩N R B hN;have hk:k<us.length:=(d_.mp hv).1;obtain⟨⟨nm,t,y⟩,c4,b,rfl,hb⟩:=Paired.at_ W k v hv;obtain⟨l,eg,en,e9⟩:=c2.at_ k _ c4;obtain rfl:nm=l.nm:=en;obtain⟨i,hl⟩:=iq.mp eg;have bi:ss.take (k+1)=ss.take k++[(l.nm,t,y)]:=cg c4;have bl:wG (ss.take k) l.nm=none:=sZ λz=>by have nd:=c2.nd;rw[<-u_ (k+1) ss,bi,ir,ir]at nd;show(ov.mp (ov.mp nd).1).2.2 _ z l.nm (List.mem_singleton.mpr ()) ()
   show{b,U () {hb,(),_,U () (au {_,U () (au {_,U () (au {(),?_})})})}};have I:M2.las[i]?=some l:=by rw[v2.las,ig,hl];show r_ some (my (by unfold sx;rw[bl];split<;>rfl))
   have da:f.G .hh=Z.G .hh:=ad.hh;have dc:=F.house;have di:=F.lays;have dt:aX (jn (M2.las.map cb.nm) λi=>V.ref (f.G (.lo i))) (.inr l.nm)=some (.ref (f.G (.lo i))):=sG (by rw[v2.names];show S.ok.ln) (by rw[ig,I];rfl);rw[da]at dc;show iN dc T.aF T.a9 () () (U () (rG (.ref (f.G (.lo i))) (by rw[<-dt];show dq.k (k:=.inr l.nm) di) (au ?_)));have dv:=F.layer I;have dT:=F.inside I;show U () (iN dv T.cr T.bT () () (rG (aX (f.iv i) (.inr g)) (dq.k (k:=.inr g) dT) (U () ?_)));have bt:=F.seats i _ I
   by_cases a7:g∈l.ins.map (·.1)
   ·rw[bt.some a7];have ei:(cC l g).isSome=true:=wH.mpr a7;show bV (hN _ _ {M2,f,_,_,_,_,?_,F,a5,a6,aa,λx hx=>by have:=ac x hx;lia,by lia,ad,al,an,W,()});have v3:=v2.row (r:=(t,y)) (cm:=M2.came) S.ok.ln hl bl ei (by rw[i_ (),pv]) (λ_ _=>());rw[i_ (),pv]at v3;rw[bi];have e3:({M2.setL i {l with ins:=l.ins}with came:=M2.came}:bq)=M2:=by change{M2 with las:=M2.las.set i l}=M2;rw[xT I]
    show e3▸v3
   ·have ap:=bt.none a7;rw[ap];show bh (U () (U () {ls (),λT1 ej=>?_}));show fM ej λH3 s3 e3=>?_;have bz:=F.same s3;have fa:(f.iv i).length<=100:=by rw[bt.len];have:=(S.ok.la l (g_ hl)).len;lia
    show iN (s3 _ _ dv) T.cr T.bT () () (U () {f.G (.iu i),_,.inr g,(),(),s3 _ _ dT,by rw[ji];lia,?_});rw[pC _ ap];have J:bx P w K a (aH H3 (f.G (.iu i)) (.dK (f.iv i++[(.inr g,.ref T1)]))) (M2.setL i {l with ins:=l.ins++[(g,t,y)]}) {f with iv:=λj=>if j=i then f.iv i++[(.inr g,.ref T1)]else f.iv j}:=bz.setIns (iv':=f.iv i++[(.inr g,.ref T1)]) (ins':=l.ins++[(g,t,y)]) I (Paired.snoc (bz.seats i _ I) {(),T1,(),aS.of e3});have dV:=(d_.mp I).1;have as:gw H3 M2 f (aH H3 (f.G (.iu i)) (.dK (f.iv i++[(.inr g,.ref T1)]))) (M2.setL i {l with ins:=l.ins++[(g,t,y)]}) {f with iv:=λj=>if j=i then f.iv i++[(.inr g,.ref T1)]else f.iv j}:=gw.put (show i<_ from dV) () (D_ ..) () () λx hx=>.inl hx;have bQ:=bz.imm (r:=.iu i) (by simp only[cont,I];rfl) (cT (o':=.dK (f.iv i++[(.inr g,.ref T1)])));have b0:=cT (x:=f.G (.iu i)) (o':=.dK (f.iv i++[(.inr g,.ref T1)])) _ _ (s3 _ _ an) λz=>al (.inl {.iu i,dV,z});have b8:¬gL (M2.setL i {l with ins:=l.ins++[(g,t,y)]}) {f with iv:=λj=>if j=i then f.iv i++[(.inr g,.ref T1)]else f.iv j} r:=λz=>(as.fp r z).elim al λz=>by rw[s3 _ _ an]at z;cases z
    have ek:=bQ.kp.tq (K:=K) (aS.of e3);have bc:=(W.kp (.of s3)).kp bQ.kp;generalize b9:M2.setL i {l with ins:=l.ins++[(g,t,y)]}=M4 at J as b8;generalize ax:({f with iv:=λj=>if j=i then f.iv i++[(.inr g,.ref T1)]else f.iv j}:ZS)=C at J as b8;have a2:C.G=f.G:=by rw[<-ax]
    have e0:C.cv=f.cv:=by rw[<-ax]
    have d1:C.tk=f.tk:=by rw[<-ax]
    have d2:C.ow=f.ow:=by rw[<-ax]
    have d3:C.ds=f.ds:=by rw[<-ax]
    have D:M4.came=M2.came:=by rw[<-b9]
    generalize aH H3 (f.G (.iu i)) (.dK (f.iv i++[(.inr g,.ref T1)]))=H4 at J as bQ b0 ek bc⊢;have cc:=J.house;rw[a2,da]at cc;have a8:=J.cams;rw[a2]at a8;show iN cc T.aF T.c6 () () {f.G .ci,(),.inl {_,.inl a8},U () {ls (),λl0 el=>?_}};show fM el λH5 s5 e5=>?_;show{aX C.cv (.inr g),dq.k (k:=.inr g) (s5 _ _ a8),_,(),U () {ls (),λL eo=>{ls (),λl1 d4=>?_}}};have s7:=ak (o:=.lst [.ref L]) (ak (o:=.tup [.str t,.str y]) (ao.refl H5) eo) d4;have e7:aH (aH H5 L (.tup [.str t,.str y])) l1 (.lst [.ref L]) l1=some (.lst [.ref L]):=ag;have e6:aH (aH H5 L (.tup [.str t,.str y])) l1 (.lst [.ref L]) L=some (.tup [.str t,.str y]):=by rw[aq (aG ag d4)];show ag
    generalize aH (aH H5 L (.tup [.str t,.str y])) l1 (.lst [.ref L])=H7 at s7 e6 e7⊢;have bb:=s5.trans s7;obtain⟨ll,p,u,ep,ev,eq,d5,er⟩:∃ll p u,u=cP M4.came g/\(aX C.cv (.inr g)).getD (.ref l0)=.ref ll/\H7 ll=some (.lst p)/\cz K H7 p u/\u.length<=10*c+k:=by
     rcases J.came.find g with⟨e,e'⟩|⟨es,ew,e,_,h2,h3,h4⟩
     ·show{l0,[],[],e'.symm,by rw[e];rfl,s7 _ _ e5,.nil,by simp}
     ·have h5:=h4;rw[D]at h5;have:=ac _ h5;show{es,ew,U () {by rw[e];rfl,bb _ _ h2,h3.kp (.of bb),by rw[D];show this}}
    have e1:p.length=u.length:=Paired.length d5;rw[ev];show{ll,l1,p,[.ref L],(),(),eq,e7,by rw[ji];simp;lia,λlp cK=>?_};have s8:=ak (o:=.lst (p++[.ref L])) bb cK;have e8:aH H7 lp (.lst (p++[.ref L])) lp=some (.lst (p++[.ref L])):=ag;have ea:cz K (aH H7 lp (.lst (p++[.ref L]))) (p++[.ref L]) (u++[(t,y)]):=cz.kp (Kp.new cK) (Paired.snoc d5 {L,(),aS.of e6});have a3:H4 lp=none:=bb.free cK;generalize aH H7 lp (.lst (p++[.ref L]))=H8 at s8 e8 ea⊢;have cS:=J.same s8;have e2:C.cv.length<=10*c+k:=by have:=Paired.length J.came;rw[this,D];show c3
    show iN (s8 _ _ cc) T.aF T.c6 () () (U () {f.G .ci,_,.inr g,(),(),s8 _ _ a8,by rw[ji];lia,?_});have ey:lp≠C.G .dl:=λz=>by rw[z,J.dees]at a3;cases a3
    have ez:bx P w K a (aH H8 (f.G .ci) (.dK (cL C.cv (.inr g) (.ref lp)))) {M4 with came:=rR M4.came g (u++[(t,y)])} {C with cv:=cL C.cv (.inr g) (.ref lp)}:=by rw[show f.G .ci=C.G .ci by rw[a2]];show cS.setCame (cS.came.put (g:=g) ey e8 ea)
    have eb:=cS.imm (r:=.ci) () (cT (o':=.dK (cL C.cv (.inr g) (.ref lp))));rw[a2]at eb;have ec:gw H4 M4 C (aH H8 (f.G .ci) (.dK (cL C.cv (.inr g) (.ref lp)))) {M4 with came:=rR M4.came g (u++[(t,y)])} {C with cv:=cL C.cv (.inr g) (.ref lp)}:=by
     show{(),λb o e n=>by rw[aq λz=>n (.inl {.ci,trivial,by rw[a2];show z})];show s8 b o e,λb z=>?_,λb z=>s8.free (mn z),()};rcases z with z|z|⟨x,hx,e⟩
     ·show .inl (.inl z)
     ·show .inl (.inr (.inl z))
     ·rcases DH hx with q|q
      ·show .inl (.inr (.inr (x,q,e,)))
      ·rw[q]at e;cases e;show .inr a3
    have v9:iw g (ss.take (k+1)) M {M4 with came:=rR M4.came g (u++[(t,y)])}:=by
     rw[bi,<-b9];show v2.row (r:=(t,y)) S.ok.ln hl bl (b:=false) ?_ ?_ λg' n=>?_
     ·cases e:(cC l g).isSome with|false=>rfl|true=>show absurd (wH.mp e) a7
     ·rw[y6,i_ (),ep,<-b9];rfl
     ·rw[y6,iA n]
    have eG:=(ad.trans (gw.of s3)).trans (as.trans ec);have eH:aH H8 (f.G .ci) (.dK (cL C.cv (.inr g) (.ref lp))) r=some (.lst us):=by rw[aq λz=>al (.inl {.ci,trivial,z})];show s8 _ _ b0
    show hN _ _ {_,{C with cv:=cL C.cv (.inr g) (.ref lp)},_,_,_,_,v9,ez,d1.trans a5,d2.trans a6,d3.trans aa,λx hx=>?_,?_,eG,λz=>(ec.fp r z).elim b8 (λz=>by rw[b0]at z;cases z),eH,(bc.kp (.of s8)).kp eb.kp,()}
    ·rcases DF hx with q|q
     ·rw[D]at q;have:=ac x q;show p6 this
     ·rw[q,j1];simp;show y_ er
    ·have:=DG (cm:=M4.came) (g:=g) (ss:=u++[(t,y)]);rw[D]at this;change(rR M4.came g (u++[(t,y)])).length<=_;rw[D];lia
  ·rintro σ H2⟨M2,f,v4,v5,v6,v7,v2,F,a5,a6,aa,ac,c3,ad,al,an,W,rfl⟩;rw[Paired.length X,ku (e_ _)]at v2;show U () (q r us ss M2 f H2 hA v2 ad {F,S.ok.vis v2 hg (λx hx=>by have:=ac x hx;lia) (by lia),λj=>by rw[a5];have:=S.tk j;lia,λj=>by rw[a6];have:=S.ow j;lia,by rw[aa];have:=S.ds;lia} hr an aa)
end
inductive Dn(K:OF)(vs:List V)(H:Hp)(Q:VK)(_E:XK):Prop|mk(t d:Addr)(l:OL)(kvs:List (bK×V))(_:vs=[.ref t,.ref d])(_:aS K H t (l.map V.str))(_:H d=some (.dK kvs))(_:(∀x∈l,Wd x/\(aX kvs (.inr x)).isSome=true))(_:l.Nodup)(_:l.length<=8)(_:∀H',ao H H'->Q .non H')
inductive Dm(P:OK)(w:World)(K:OF)(a:f8)(vs:List V)(H:Hp)(Q:VK)(_E:XK):Prop|mk(z:Int)(M:bq)(Z:ZS)(_:vs=[.int z,.int M.p,.ref (Z.G .ln)])(_:bx P w K a H M Z)(_:M.las.length<=4)(_:0<=z)(_:z<=M.p)(_:z∉M.las.map cb.sl)(_:∀H',ao H H'->Q .non H')
inductive Dk(K:OF)(vs:List V)(H:Hp)(Q:VK)(_E:XK):Prop|mk(d ly tr ar sh:Addr)(ru:V)(x y:Str)(r:Ru)(ws l ss:OL)(lk tk:List (bK×V))(_:vs=[.ref d,.ref ly,.ref tr])(_:aS K H d [.str "trial",.str x,.str y,.ref ar,ru,.ref sh])(_:Wd x)(_:Wd y)(_:H ly=some (.dK lk))(_:H tr=some (.dK tk))(_:aX tk (.inr x)=none)(_:(aX lk (.inr y)).isSome=true)(_:aS K H ar (l.map V.str))(_:(∀w∈l,Wd w))(_:l.Nodup)(_:1<=l.length)(_:l.length<=4)(_:dS K H r ru)(_:r.hgt<=6)(_:r.cnt<=30)(_:jW ws r)(_:(∀w∈ws,Wd w))(_:ws.length<=3)(_:aS K H sh (ss.map V.str))(_:(∀x∈ss,Wd x/\(aX tk (.inr x)).isSome=true))(_:ss.Nodup)(_:ss.length<=8)(_:∀H',ao H H'->Q .non H')
section
def ua(T:Txt K mg a):aT P w K mg base d0 5 a.gm.x a.gm.d ["thing","trials"] (Dn K):=by
 show T.gm.ok iZ λW A outer s H vs Q E X h=>?_
 ·obtain⟨t,d,l,B,rfl,b,hd,Z,C,h8,q⟩:=h;show{_,(ah (aK (PW.pt (fb (cx (aR K () (aA (ft K ()) (by rfl) T.bU L2.bo (O (Y 0) (O (lq () T.d9 L2.bZ) ae))) (λ_=>()))) (dP (aC pE (aA (aI K ()) (by rfl) T.bE L2.aJ (O (Y 0) ae)) (ck T.xo ()) (aE _))))) (ai gz) aD) (ai (eO o0 () (GA K () () T.yB (O (Y 0) ae)) (eU K () () (bd (oK 2 iZ.nd) (bd (oK 3 iZ.nd) eT))) (ah (aY (pc T.aM (pH T) X (O (Y 3) (O (Y 1) ae)))) (ai (aK (aC (mi K ()) (Y 3) (fc (AE K ()) (Y 0) gB (gA (Y 2))) (by with_unfolding_all rfl)) (ai gz) aD)))))),?_}
  show U () {_,"tuple",_,true,(),.inr {t,U () {b,()}},fN (dk ()),true,(),bV ?_};show U () {_,l.length,(),.inr {_,b,by simp},_,U () {(),U () (lD (λh=>absurd h (by lia)) (λ_=>?_))}};show U () {t,U () {b,?_}};show EX (n:=l.length) (λk j H'=>ao H H'/\(Kv λD F=>j=[some (.ref t),some (.ref d),D,F])) {ao.refl H,_,_,()} (λk j H' L h=>{_,.str l[k],ao.tseq h.1 b,by rw[ig,il L];rfl}) ?_ ?_
  ·rintro k j m v H2 L⟨c,D,F,rfl⟩⟨r,x,G,rfl,rfl,y⟩;have y:=y _ (ao.tseq c b);rw[ig]at y;obtain⟨z,M,rfl⟩:=Option.map_eq_some_iff.mp y;have I:=ak (o:=.tup [.int k,.str z]) c G;have N:aH m r (.tup [.int k,.str z]) r=some (.tup [.int k,.str z]):=ag;generalize aH m r (.tup [.int k,.str z])=H2 at I N⊢;show{r,U () {aS.of N,(),_,U () (au {_,U () (au {(),?_})})}};have f:=Z z (g_ M);show U () (U () {z,d,B,(),f.1,I _ _ hd,f.2,λH3 s3=>?_});have g:=I.trans s3;show U () (U () (U () (U () {t,U () {ao.tseq g b,?_,λp hp=>?_}})))
   ·rintro⟨_,e⟩;rw[b_]at e;have e:(if(k:Int)<0 then((k:Int)+(l.length:Int)).toNat else min (k:Int).toNat l.length)=l.length:=e;rw[iA (by show l_ ())]at e;lia
   ·rw[xi _ (by show kl _)];show{p,U () {.inr (aS.of ag),(),?_,U () ?_}}
    ·rw[<-Oc];show mQ _
    ·rw[<-Oc];have J:z∉l.take (k:Int).toNat:=λh=>by have:=C;rw[<-u_ k l,ov]at this;show this.2.2 z (by simpa using h) z (g_ (i:=0) (by rw[Oe,Nat.add_zero];show M)) ()
     have e:lz (.str z) ((l.take (k:Int).toNat).map V.str)=false:=by cases R:lz (.str z) ((l.take (k:Int).toNat).map V.str)with|false=>rfl|true=>unfold lz at R;obtain⟨v,hv,e⟩:=NP.mp R;obtain⟨u,S,rfl⟩:=k_.mp hv;have e:(u==z)=true:=e;rw[eq_of_beq e]at S;show absurd S J
     change if(if false=true then _ else lz (.str z) ((l.take (k:Int).toNat).map V.str))=true then _ else _
     rw[iA kw,e];show bV {(g.trans (ak (ao.refl _) hp)),_,_,()}
  ·rintro j m⟨c,D,F,rfl⟩;show{{_,ao.tseq c b,by rw[b_]},q m c}
def t9(T:Txt K mg a):aT P w K mg base d0 3 a.gk.x a.gk.d ["thing","prime","layers"] (Dm P w K a):=by
 show T.gk.ok tm λN A outer s H W Q E R h=>?_
 ·obtain⟨z,M,Z,rfl,J,h4,h0,h1,hn,q⟩:=h;show{_,(ah (aK (PW.pt (fb (cx (aR K () (pc T.dQ (jB T) R (O (Y 0) ae)) (λ_=>()))) (dP (aC pE (Y 0) (Y 1) (aE _))))) (ai gz) aD) (ai (aK (aC (mi K ()) (Y 0) (Jj (P:=P) (w:=w) (uu jY ["layer"] [] [3] (am jK) (bW 3) (Gx (P:=P) (w:=w) (Y 2)) (λcl C s₀ H₀ ex=>{(lF jY ["layer"] 3),bR,(aL K () (Y 3))}))) (by with_unfolding_all rfl)) (ai gz) aD))),?_}
  show U () {z,(),h0,U () (bV ?_)};show U () (U () {z,M.p,(),(),U () (lD (λh=>absurd h (by lia)) (λ_=>?_))});have g:=J.lays;show U () (U () {Z.G .ln,U () {g,λL=>?_}});showλD t=>?_;have nd:Z.G .ln≠D:=λz=>by rw[<-z,ag]at t;cases t
  have r:H D=none:=by rw[aq (o8 nd)]at t;show t
  show xj (n:=M.las.length) (λk c u=>(∀b o,H b=some o->b≠Z.G .ln->u b=some o)/\u (Z.G .ln)=some (dE P w (Z.G .ln) (jn (M.las.map cb.nm) λi=>.ref (Z.G (.lo i))) L)/\u D=some (.lst c)/\c=((M.las.map cb.sl).take k).map V.int) {λb o e n=>by rw[aq (aG e r),aq n];show e,by rw[aq nd,ag],ag,()} (λk c u v h=>{h.2.1,by rw[iJ,b_];show v}) ?_ ?_
  ·rintro k c S x X v⟨y,f,j,rfl⟩⟨rfl,B⟩;have I:=il v;rw[wX,ig,I]at B;have B:V.ref (Z.G (.lo k))=x:=mu B;subst B;have m:=J.layer I;show au (iy (bh (iN (y _ _ m (λz=>by rw[z,g]at m;cases m)) T.cr T.je () () {j,by rw[b_,oa,ji];lia,lf v {λb o e n=>by rw[aq (aG e r)];show y b o e n,by rw[aq nd];show f,ag,?_}})));rw[cg (l:=M.las.map cb.sl) (x:=(M.las[k]).sl) (by rw[ig,I];rfl),ir];rfl
  ·rintro c S⟨y,f,j,rfl⟩;show{{f,by rw[iJ,b_];show e_ _},Z.G .ln,_,L,f,D,_,(),.inl (aW.of (by rw[aq (o8 nd)];show j)),(),oC _,_,(),?_};rw[ku (by rw[b_];show e_ _)];change if(if false=true then _ else lz (.int z) ((M.las.map cb.sl).map V.int))=true then _ else _
   rw[iA kw,A7,me hn];show bV (q _ λb o e=>?_)
   by_cases F:b=Z.G .ln
   ·rw[F,g]at e;rw[F,ag];show e
   ·rw[aq F];show y b o e F
end
inductive Dd|layer(nm:Str)(sl:Int)|trial(x:du)|share(t:du)(ns:OQ)|deal(t:du)(z:Int)(ws:OQ)|hold(l:cb)(z:Int)|pause(t:du)(b:Bool)|close(t:du)|bar(g:Str)(t:du)|visit(g:Str)(ms:List (Str×Int))
def Dd.clo:Dd->Bool|.share t _=>t.clo|.deal t _ _=>t.clo|.pause t _=>t.clo|.close t=>t.clo|_=>false
inductive jp(K:OF)(H:Hp)(M:bq):Dd->List V->Prop|layer{nm:Str}{sl:Int}(h1:Wd nm)(h2:nm∉M.las.map cb.nm)(h3:0<=sl/\sl<=M.p)(h4:sl∉M.las.map cb.sl)(h5:M.las.length<4):jp K H M (.layer nm sl) [.str "layer",.str nm,.int sl]|trial{x:du}{ar sh ra:Addr}{ws:OL}(h1:Hv M x)(h2:x.nm∉M.trs.map du.nm)(h3:aS K H ar (x.arms.map V.str))(h4:dS K H x.rule (.ref ra))(h5:x.rule.cnt<=30)(h6:jW ws x.rule)(h7:∀w∈ws,Wd w)(h8:ws.length<=3)(h9:aS K H sh (x.shuts.map V.str))(ha:∀s∈x.shuts,s∈M.trs.map du.nm)(hb:x.shuts.Nodup)(hc:x.pau=false)(hd:x.clo=false)(he:x.bar=[])(hf:M.trs.length<10):jp K H M (.trial x) [.str "trial",.str x.nm,.str x.home,.ref ar,.ref ra,.ref sh]|share{t:du}{ns:OQ}{nv:Addr}(h1:t∈M.trs)(h2:aS K H nv (ns.map V.int))(h3:ns.length=t.arms.length)(h4:∀x∈ns,0<=x):jp K H M (.share t ns) [.str "share",.str t.nm,.ref nv]|deal{t:du}{z:Int}{ws:OQ}{wv:Addr}(h1:t∈M.trs)(hz:0<=z/\z<=1000)(h2:aS K H wv (ws.map V.int))(h3:ws.length=t.arms.length)(h4:∀x∈ws,1<=x/\x<=cI):jp K H M (.deal t z ws) [.str "deal",.str t.nm,.int z,.ref wv]|hold{l:cb}{z:Int}(h1:l∈M.las)(h2:0<=z):jp K H M (.hold l z) [.str "hold",.str l.nm,.int z]|pause{t:du}(h1:t∈M.trs):jp K H M (.pause t true) [.str "pause",.str t.nm]|go{t:du}(h1:t∈M.trs):jp K H M (.pause t false) [.str "go",.str t.nm]|close{t:du}(h1:t∈M.trs):jp K H M (.close t) [.str "close",.str t.nm]|bar{g:Str}{t:du}(h1:uP g)(h2:t∈M.trs):jp K H M (.bar g t) [.str "bar",.str g,.str t.nm]|visit{g:Str}{mv:V}{ms:List (Str×Int)}(h1:uP g)(h2:lE K H ms mv)(h3:∀m∈ms,Wd m.1/\-cI<=m.2/\m.2<=cI)(h4:(ms.map Prod.fst).Nodup)(h5:ms.length<=8):jp K H M (.visit g ms) [.str "visit",.str g,mv]
theorem jp.kp(e:Kp H H')(h:jp K H M d c):jp K H' M d c:=by cases h with|layer h1 h2 h3 h4 b=>show .layer h1 h2 h3 h4 b|trial h1 h2 h3 h4 b f g i j k l hc hd m n=>show .trial h1 h2 (e.tq h3) (h4.kp e) b f g i (e.tq j) k l hc hd m n|share h1 h2 h3 h4=>show .share h1 (e.tq h2) h3 h4|deal h1 o h2 h3 h4=>show .deal h1 o (e.tq h2) h3 h4|hold h1 h2=>show .hold h1 h2|pause h1=>show .pause h1|go h1=>show .go h1|close h1=>show .close h1|bar h1 h2=>show .bar h1 h2|visit h1 h2 h3 h4 b=>show .visit h1 (h2.kp e) h3 h4 b
inductive xC(K:OF)(H:Hp)(many:Nat):Str->List V->Prop|share{p:Addr}{l:OQ}(h1:aS K H p (l.map V.int))(h2:∀i∈l,0<=i)(h3:l.length=many):xC K H many "share" [.ref p]|deal{z:Int}{p:Addr}{l:OQ}(hz:0<=z/\z<=1000)(h1:aS K H p (l.map V.int))(h2:∀i∈l,1<=i/\i<=cI)(h3:l.length=many):xC K H many "deal" [.int z,.ref p]|other{k:Str}(h1:k≠"share")(h2:k≠"deal"):xC K H many k []
inductive IF(P:OK)(w:World)(K:OF)(a:f8)(vs:List V)(H:Hp)(Q:VK)(E:XK):Prop|mk(d:Addr)(M:bq)(Z:ZS)(c:Nat)(k:Str)(t:du)(xs:List V)(_:vs=[.ref d,.ref (Z.G .tn)])(_:aS K H d (.str k::.str t.nm::xs))(_:bx P w K a H M Z)(_:j0 M c)(_:t∈M.trs)(_:xC K H t.arms.length k xs)(_:(t.clo=false->∀H',ao H H'->Q .non H'))(_:(t.clo=true->∀H',ao H H'->E (.ref a.qT) none H'))
inductive Ge(P:OK)(w:World)(K:OF)(a:f8)(vs:List V)(H:Hp)(Q:VK)(E:XK):Prop|mk(dv:Addr)(M:bq)(Z:ZS)(c:Nat)(d:Dd)(xs:List V)(_:vs=[.ref dv,.int M.p,.ref (Z.G .ln),.ref (Z.G .tn)])(_:aS K H dv xs)(_:bx P w K a H M Z)(_:j0 M c)(_:jp K H M d xs)(_:(d.clo=false->∀H',ao H H'->Q .non H'))(_:(d.clo=true->∀H',ao H H'->E (.ref a.qT) none H'))
def E8(c:OQ)(n:Nat):∀i∈deal c n,0<=i:=λi hi=>by obtain⟨k,b⟩:=iq.mp hi;have:=(xh c n k).1;unfold gd at this;rw[ry,b]at this;show this
inductive gN(M:bq):Dd->bq->Prop|layer{nm:Str}{sl:Int}:gN M (.layer nm sl) (xx M nm sl)|trial{x:du}:gN M (.trial x) (xv M x)|share{t:du}{ns:OQ}{i:Nat}{l:cb}(hl:M.las[i]?=some l)(hh:l.nm=t.home)(hn:jE l.S (mO t.nm t.arms ns)<=((oM M.p l.S.oc).length:Int)):gN M (.share t ns) (lP M i l t ns)|deal{t:du}{z:Int}{ws:OQ}{i:Nat}{l:cb}(hl:M.las[i]?=some l)(hh:l.nm=t.home)(hn:jE l.S (mO t.nm t.arms (deal ws z.toNat))<=((oM M.p l.S.oc).length:Int)):gN M (.deal t z ws) (lP M i l t (deal ws z.toNat))|hold{l:cb}{z:Int}{i:Nat}(hl:M.las[i]?=some l):gN M (.hold l z) (EL M i l z)|pause{t:du}{b:Bool}{j:Nat}(hj:M.trs[j]?=some t):gN M (.pause t b) (M.setT j {t with pau:=b})|close{t:du}{i j:Nat}{l:cb}(hj:M.trs[j]?=some t)(hl:M.las[i]?=some l)(hh:l.nm=t.home):gN M (.close t) (lP (M.setT j {t with clo:=true}) i l {t with clo:=true} (iF t))|bar{g:Str}{t:du}{i j:Nat}{l:cb}(hj:M.trs[j]?=some t)(hl:M.las[i]?=some l)(hh:l.nm=t.home):gN M (.bar g t) (Am M i j l t g)|visit{g:Str}{ms:List (Str×Int)}{ss:List (Str×Str×Str)}{M':bq}(ha:qd M g ms M.las ss)(h:iw g ss M M'):gN M (.visit g ms) M'
def Dd.adds:Dd->Bool|.layer _ _=>true|.trial _=>true|_=>false
def Dd.clo_adds{d:Dd}(h:d.clo=true):d.adds=false:=by cases d<;>first|rfl|cases h
inductive IQ(P:OK)(w:World)(K:OF)(a:f8)(vs:List V)(H:Hp)(Q:VK)(E:XK):Prop|mk(M:bq)(Z:ZS)(c:Nat)(dv:Addr)(d:Dd)(xs:List V)(_:vs=[.ref (Z.G .hh),.ref dv])(_:dn P w K a H M Z c)(_:c<=63)(_:aS K H dv xs)(_:jp K H M d xs)(_:(∀(r:Addr)(us:List V)(M':bq)(Z':ZS)(H':Hp),gN M d M'->gw H M Z H' M' Z'->dn P w K a H' M' Z' (c+1)->H r=none->H' r=some (.lst us)->Z'.ds=Z.ds->Q (.ref r) H'))(_:(d.adds=false->∀H',ao H H'->E (.ref a.mJ) none H'))
section
def u8(T:Txt K mg a):aT P w K mg base (oN P w) 11 a.gh.x a.gh.d ["self","deed"] (IQ P w K a):=by
 show T.gh.okE nE λap A outer s H vs Q E p h=>?_
 ·obtain⟨M,Z,c,dv,d,xs,rfl,y,hc,u,hD,q,W⟩:=h;show{_,(ah (bn 2 nE.nd (cA K (Y 1) af)) (ah (aK (aC aQ (Y 2) av (aE _)) (ai (az (bw (Y 0) T.aF T.dg.m ((pN (P:=P) (w:=w) T).mono (by decide)) p T.dg.b .nil bj (O (cA K (Y 1) af) (O (cA K (Y 1) af) ae))))) aD) (ah (aK (aC aQ (Y 2) av (aE _)) (ai (az (bw (Y 0) T.aF T.df.m ((pM (P:=P) (w:=w) T).mono (by decide)) p T.df.b .nil bj (O (cA K (Y 1) af) (O (sE T.Ed ((rY (P:=P) (w:=w) T).mono (by decide)) p () T.GU T.eh.b .nil bj (O (cA K (Y 1) af) (O (cA K (Y 1) af) (O (cA K (Y 1) af) (O (cA K (Y 1) af) ae))))) ae))))) aD) (ah (aK (aC aQ (Y 2) av (aE _)) (ai (az (bw (Y 0) T.aF T.bJ.m ((gD (P:=P) (w:=w) T).mono (by decide)) p T.bJ.b .nil bS (O (cA K (Y 1) af) (O (cA K (Y 1) af) ae))))) aD) (ah (aK (aC aQ (Y 2) av (aE _)) (ai (az (bw (Y 0) T.aF T.bJ.m ((gD (P:=P) (w:=w) T).mono (by decide)) p T.bJ.b .nil bS (O (cA K (Y 1) af) (O (pc T.wa (DV T) p (O (cA K (Y 1) af) (O (cA K (Y 1) af) ae))) ae))))) aD) (ah (aK (aC aQ (Y 2) av (aE _)) (ai (az (bw (Y 0) T.aF T.dL.m ((qv (P:=P) (w:=w) T).mono (by decide)) p T.dL.b .nil bS (O (cA K (Y 1) af) (O (cA K (Y 1) af) ae))))) aD) (ah (aK (aC aQ (Y 2) av (aE _)) (ai (az (bw (Y 0) T.aF T.cp.m ((jD (P:=P) (w:=w) T).mono (by decide)) p T.cp.b .nil bj (O (cA K (Y 1) af) (O dU ae))))) aD) (ah (aK (aC aQ (Y 2) av (aE _)) (ai (az (bw (Y 0) T.aF T.cp.m ((jD (P:=P) (w:=w) T).mono (by decide)) p T.cp.b .nil bj (O (cA K (Y 1) af) (O dU ae))))) aD) (ah (aK (aC aQ (Y 2) av (aE _)) (ai (az (bw (Y 0) T.aF T.dh.m ((pO (P:=P) (w:=w) T).mono (by decide)) p T.dh.b .nil bS (O (cA K (Y 1) af) ae)))) aD) (ah (aK (aC aQ (Y 2) av (aE _)) (ai (az (bw (Y 0) T.aF T.eD.m ((sd (P:=P) (w:=w) T).mono (by decide)) p T.eD.b .nil bj (O (cA K (Y 1) af) (O (cA K (Y 1) af) ae))))) aD) (ai (az (bw (Y 0) T.aF T.de.m ((pL (P:=P) (w:=w) T).mono (by decide)) p T.de.b .nil bj (O (cA K (Y 1) af) (O (cA K (Y 1) af) ae))))))))))))))),?_}
  have F:=y.g.house;cases hD with|@layer nm sl h1 h2 h3 h4 S=>show U () (rX u (aj (k:=0) ()) (au ?_));show U () {(),U () (aZ ?_)};show nM F () () (U () (rX u (aj (k:=1) ()) (U () (rX u (aj (k:=2) ()) {M,Z,c,nm,sl,(),y,h1,h2,h3,S,λr B H' st f p n v=>q r [] _ B H' .layer st (f.mono (sf c)) p n v}))))|@trial x ar sh ra J h1 h2 h3 h4 S h6 h7 h8 h9 ha hb X hd he hf=>
   show U () (rX u (aj (k:=0) ()) (au ?_));show U () {(),U () (wn ?_)};show U () {(),U () (aZ ?_)};show nM F () () (U () (rX u (aj (k:=1) ()) ?_));show U () (rX u (aj (k:=2) ()) (U () (rX u (aj (k:=3) ()) (U () (rX u (aj (k:=4) ()) (U () (rX u (aj (k:=5) ()) (λt ty L aa as=>?_))))))));have s2:ao H (aH (aH H ty (.own t)) t (.ins a.fX ty [])):=λb o e=>by rw[aq (aG e L),aq (aG e aa)];show e
   have N:aH (aH H ty (.own t)) t (.ins a.fX ty []) t=some (.ins a.fX ty []):=ag;generalize aH (aH H ty (.own t)) t (.ins a.fX ty [])=H2 at s2 N⊢;show{t,ty,ar,ra,sh,x.home,(),N,λba H3 ac f3 ad al=>{(),?_}};have s3:ao H H3:=λb o e=>f3 b o (s2 b o e) (aG e L);show{M,Z,c,H,t,ba,ty,ar,sh,.ref ra,x,(),y,s3,L,s2.free ac,al,ad,h3,h4,h9,X,hd,he,h1,h2,hf,λr B H' st f p n v=>q r [] _ B H' .trial st (f.mono (sf c)) p n v}|@share t ns nv h1 h2 h3 h4=>obtain⟨j,C⟩:=iq.mp h1;obtain⟨i,l,D,hh⟩:=y.ok.home h1;show U () (rX u (aj (k:=0) ()) (au ?_));(iterate 2 show U () {(),U () (wn ?_)});show U () {(),U () (aZ ?_)};show nM F () () (U () (rX u (aj (k:=1) ()) (U () (rX u (aj (k:=2) ()) {M,Z,c,i,j,l,t,nv,ns,(),y,hc,C,D,hh,.inr h2,h3,h4,λG r I B H' st f p n v=>q r I _ B H' (.share D hh G) st f p n v,λ_=>W ()}))))|@deal t z J wv h1 hz h2 h3 h4=>
   obtain⟨j,C⟩:=iq.mp h1;obtain⟨i,l,D,hh⟩:=y.ok.home h1;have R:=y.ok.tr t h1;have a1:=R.a1;have a4:=R.a4;show U () (rX u (aj (k:=0) ()) (au ?_));(iterate 3 show U () {(),U () (wn ?_)});show U () {(),U () (aZ ?_)};show nM F () () (U () (rX u (aj (k:=1) ()) (U () (rX u (aj (k:=2) ()) (U () (rX u (aj (k:=3) ()) {z.toNat,wv,J,by rw[show((z.toNat:Nat):Int)=z by lia];rfl,by lia,h2,by lia,by lia,λtv H1 V L=>?_}))))));have an:(deal J z.toNat).length=t.arms.length:=by rw[mD];show h3
   show{M,Z,c,i,j,l,t,tv,deal J z.toNat,(),y.same V,hc,C,D,hh,.inr (aS.of L),an,E8 J z.toNat,λG r I B H' st f p n v=>q r I _ B H' (.deal D hh G) ((gw.of V).trans st) f (V.free p) n v,λ_ H' s'=>W () H' (V.trans s')}|@hold l z h1 h2=>obtain⟨i,D⟩:=iq.mp h1;show U () (rX u (aj (k:=0) ()) (au ?_));(iterate 4 show U () {(),U () (wn ?_)});show U () {(),U () (aZ ?_)};show nM F () () (U () (rX u (aj (k:=1) ()) (U () (rX u (aj (k:=2) ()) {M,Z,c,i,l,z,(),y,hc,D,h2,λG r B H' st f p n v=>q r [] _ B H' (.hold D) st f p n v,λ_=>W ()}))))|@pause t h1=>obtain⟨j,C⟩:=iq.mp h1;show U () (rX u (aj (k:=0) ()) (au ?_));(iterate 5 show U () {(),U () (wn ?_)});show U () {(),U () (aZ ?_)};show nM F () () (U () (rX u (aj (k:=1) ()) {M,Z,c,j,t,true,(),y,C,λr H' st f p n=>q r [] _ Z H' (.pause C) st (f.mono (sf c)) p n ()}))|@go t h1=>obtain⟨j,C⟩:=iq.mp h1;show U () (rX u (aj (k:=0) ()) (au ?_));(iterate 6 show U () {(),U () (wn ?_)});show U () {(),U () (aZ ?_)};show nM F () () (U () (rX u (aj (k:=1) ()) {M,Z,c,j,t,false,(),y,C,λr H' st f p n=>q r [] _ Z H' (.pause C) st (f.mono (sf c)) p n ()}))|@close t h1=>obtain⟨j,C⟩:=iq.mp h1;obtain⟨i,l,D,hh⟩:=y.ok.home h1;show U () (rX u (aj (k:=0) ()) (au ?_));(iterate 7 show U () {(),U () (wn ?_)});show U () {(),U () (aZ ?_)};show nM F () () (U () (rX u (aj (k:=1) ()) {M,Z,c,i,j,l,t,(),y,hc,C,D,hh,λr I B H' st f p n v=>q r I _ B H' (.close C D hh) st f p n v}))|@bar g t h1 h2=>obtain⟨j,C⟩:=iq.mp h2;obtain⟨i,l,D,hh⟩:=y.ok.home h2;show U () (rX u (aj (k:=0) ()) (au ?_));(iterate 8 show U () {(),U () (wn ?_)});show U () {(),U () (aZ ?_)};show nM F () () (U () (rX u (aj (k:=1) ()) (U () (rX u (aj (k:=2) ()) {M,Z,c,i,j,l,t,g,(),y,hc,C,D,hh,h1,λr I B H' st f p n v=>q r I _ B H' (.bar C D hh) st f p n v}))))|@visit g mv ms h1 h2 h3 h4 S=>show U () (rX u (aj (k:=0) ()) (au ?_));(iterate 9 show U () {(),U () (wn ?_)});show nM F () () (U () (rX u (aj (k:=1) ()) (U () (rX u (aj (k:=2) ()) {M,Z,c,g,mv,ms,(),y,hc,h1,h2,S,λr I ss M' B H' ha vt st f p n v=>q r I M' B H' (.visit ha vt) st f p n v}))))
end
inductive KS(P:OK)(w:World)(K:OF)(a:f8)(vs:List V)(H:Hp)(Q:VK)(E:XK):Prop|mk(M:bq)(Z:ZS)(c:Nat)(dv:Addr)(d:Dd)(xs:List V)(_:vs=[.ref (Z.G .hh),.ref dv])(_:dn P w K a H M Z c)(_:c<=63)(_:aS K H dv xs)(_:jp K H M d xs)(_:(d.clo=false->∀(r:Addr)(us:List V)(M':bq)(Z':ZS)(H':Hp),gN M d M'->gw H M Z H' M' Z'->dn P w K a H' M' Z' (c+1)->H r=none->H' r=some (.lst us)->Z'.ds=Z.ds++[.ref dv]->Q (.ref r) H'))(_:(d.adds=false->∀H',ao H H'->E (.ref a.mJ) none H'))(_:(d.adds=false->∀H',ao H H'->E (.ref a.qT) none H'))
def HI:List Str:=["ann","ann7","7ann","an","nan","ana","anan","b","bob12","bob1","21bob","annbob"]
def CW:List Str:=["","ann7","0","guestofthishouse99"]
def Dy(k:Nat):Nat:=if k<26 then 97+k else 22+k
def Mi(z:Str)(i:Int)(c:Nat):Str:=Txt.slice z none (some i)++({#[c]}:Str)++Txt.slice z (some i) none
def LY(x:Str):Bool:=decide (1<=x.length)&&decide (x.length<=24)&&x.cps.toList.all λc=>decide (c∈gH.cps.toList)
def HV(h:LY x=true):uP x:=by unfold LY at h;rw[nk,nk]at h;show{l_ h.1.1,l_ h.1.2,λc hc=>l_ (Ng.mp h.2 c hc)}
def Dv:∀z∈HI,LY z=true:=dk ()
def GP:∀z∈CW,∀i∈List.range 19,∀c∈List.range 36,LY (Mi z (i:Int) (Dy c))=true:=dk ()
def Bx:∀z∈CW,z.length<=18:=dk ()
def IV:∀c∈List.range 36,vg ("abcdefghijklmnopqrstuvwxyz0123456789":Str).cps.toList (c:Int)=some (Dy c):=dk ()
def ip{zs:OL}{i:Int}(h0:0<=i)(h1:i<(zs.length:Int)):∃z∈zs,vg (zs.map V.str) i=some (V.str z):=by obtain⟨v,b,hm⟩:=uG (xs:=zs.map V.str) h0 (by rw[b_];show h1);obtain⟨z,c,rfl⟩:=k_.mp hm;show(z,c,b,)
inductive Dh(vs:List V)(H:Hp)(Q:VK)(_E:XK):Prop|mk(k N:Int)(_:vs=[.int k,.int N])(_:∀(g:Str)H',ao H H'->uP g->Q (.str g) H')
def nR(h:N c H):(jl.mk N R B C).nx c H:=h
def qE{c:TT}{t u:TS}{D:jl}{e:St}(h1:u D e H)(h2:∀N:St->Hp->Prop,N e H->Bu c t xO {D with nx:=N} e H):rK (Bu c t xO) u D e H:=h2 (u D) h1
def LX:List Str:=["age","size","old"]
inductive FU(K:OF)(h:Nat)(vs:List V)(H:Hp)(Q:VK)(_E:XK):Prop|mk(n i:Int)(_:vs=[.int n,.int i])(_:1<=i)(_:i<=(h:Int))(_:∀(r:Ru)(rv:V)H',ao H H'->dS K H' r rv->jW LX r->r.hgt<=h->r.cnt<2^h->Q rv H')
section
def qu(T:Txt K mg a):aT P w K mg base d0 1 a.mM.x a.mM.d ["_law_k","_law_number"] Dh:=by
 show T.mM.ok j9 λp A outer s H D Q E F h=>?_
 ·obtain⟨k,N,rfl,q⟩:=h;show{_,(ah (aK (aC aQ (ay aU (ay bp (Y 1) af) af) af (aE _)) (ah (bn 2 j9.nd (bf (O av (O av (O av (O av (O av (O av (O av (O av (O av (O av (O av (O av ae)))))))))))))) (ai (az (gG K (Y 2) (ay aU (ay bP (Y 0) (ay bp (Y 1) af)) af))))) aD) (ah (bn 3 j9.nd (gG K (bf (O av (O av (O av (O av ae))))) (ay aU (Y 1) af))) (ah (bn 4 j9.nd (ay aU (ay bp (Y 1) af) (ay bP (aA (aI K ()) (by rfl) T.bE L2.aJ (O (Y 3) ae)) af))) (ah (bn 5 j9.nd (ay aU (ay bP (Y 0) (ay bp (Y 1) af)) af)) (ai (az (ay jb (ay jb (fc wD (Y 3) gB (gA (Y 4))) (yj zV av (Y 5) (λ_ _=>()))) (fc wD (Y 3) (gA (Y 4)) gB)))))))),?_}
  have b1:=bI (k+N/160) (show(0:Int)<12 by decide);have b2:=bI (k+N/160) (show(0:Int)<36 by decide);have b3:=bI N (show(0:Int)<4 by decide)
  walk_at "a"
  show kC (λr=>?_) (λr=>?_)
  ·show{ls (),λl g=>?_}
   walk_at "a"
   obtain⟨z,f,i⟩:=ip (zs:=HI) b1.1 b1.2;show{l,_,_,U () {(),aW.of ag,i,q z _ (ak (ao.refl H) g) (HV (Dv z f))}}
  ·show{ls (),λl g=>?_};obtain⟨z,f,i⟩:=ip (zs:=CW) b3.1 b3.2;have u:=Bx z f;have n:=ak (o:=.lst [V.str "",V.str "ann7",V.str "0",V.str "guestofthishouse99"]) (ao.refl H) g;have c:aH H l (.lst [V.str "",V.str "ann7",V.str "0",V.str "guestofthishouse99"]) l=some (.lst [V.str "",V.str "ann7",V.str "0",V.str "guestofthishouse99"]):=ag;generalize aH H l (.lst [V.str "",V.str "ann7",V.str "0",V.str "guestofthishouse99"])=G at n c⊢
   walk_at "a"
   show{l,_,_,U () {(),aW.of c,i,au ?_}}
   walk_at "a"
   show{_,z.length,(),{cG (by lia),()},_,U () {(),r2 {(by change(0:Int)<_;show tx.mpr (rd _)),au ?_}}};have v:=bI (N/4) (show(0:Int)<(z.length:Int)+1 by show tx.mpr (rd _));have y:=Txt.slice_le z none (some (N/4%((z.length:Int)+1)));have B:=Txt.slice_le z (some (N/4%((z.length:Int)+1))) none;have hok:=GP z f (N/4%((z.length:Int)+1)).toNat (by rw[wr];lia) ((k+N/160)%36).toNat (by rw[wr];lia);have e:=IV ((k+N/160)%36).toNat (by rw[wr];lia);rw[show(((N/4%((z.length:Int)+1)).toNat:Nat):Int)=N/4%((z.length:Int)+1)by lia]at hok;rw[show((((k+N/160)%36).toNat:Nat):Int)=(k+N/160)%36 by lia]at e;generalize Dy ((k+N/160)%36).toNat=j at*;have m:∀a b:Str,(a++b).length=a.length+b.length:=λa b=>by change(a.cps++b.cps).size=a.cps.size+b.cps.size;show Array.size_append
   have C:({#[j]}:Str).length=1:=()
   walk_at "a"
   show{cG (by lia),?_}
   walk_at "a"
   show{"abcdefghijklmnopqrstuvwxyz0123456789",_,j,(),(),cG (dk ()),e,_,({#[j]}:Str),(),(),cG (by lia),U () (U () {N/4%((z.length:Int)+1),(),z,(),cG (by lia),_,U () {(),cG (by rw[m];lia),q _ _ n (HV hok)}})}
theorem yw(T:Txt K mg a):∀h:Nat,aT P w K mg base d0 (h+1) a.eY.x a.eY.d ["_law_number","_law_high"] (FU K h)
 |0=>by
  show T.eY.f.ok lU (λS H Q E h=>?_) (λW A outer s H S Q E e h=>?_)
  ·obtain⟨n,i,rfl,_⟩:=h;rfl
  ·obtain⟨n,i,rfl,h1,h2,_⟩:=h;lia|hh+1=>by
  have G:=yw T hh;show T.eY.f.ok lU (λS H Q E h=>?_) (λW A outer s H S Q E e h=>?_)
  ·obtain⟨n,i,rfl,_⟩:=h;rfl
  ·obtain⟨n,i,rfl,h1,h2,q⟩:=h;show{_,(ah (bn 2 lU.nd (ay aU (Y 0) af)) (ah (bn 3 lU.nd (ay bp (Y 0) af)) (ah (bn 4 lU.nd (gG K (bf (O av (O av (O av ae)))) (ay aU (Y 3) af))) (ah (aK (aC aQ (Y 2) af (aE _)) (ai (az (aO (O av (O (Y 4) ae))))) aD) (ah (aK (PW.pt (fb (aC aQ (Y 2) af (aE _)) (dP (aC aQ (Y 2) af (aE _))))) (ai (az (aO (O av (O (Y 4) (O (ay f9 (ay aU (ay bp (Y 3) af) af) af) ae)))))) aD) (ah (aK (PW.pt (jM (aC pE (Y 1) af (aE _)) (iH (aC aQ (Y 2) af (aE _))))) (ai (az (aO (O av (O (aP G e () T.eY.m T.eY.f.kp T.eY.b .nil bj (O (Y 3) (O (ay f9 (Y 1) af) ae))) ae))))) aD) (ah (aK (PW.pt (jM (aC pE (Y 1) af (aE _)) (iH (aC aQ (Y 2) af (aE _))))) (ai (az (aO (O av (O (aP G e () T.eY.m T.eY.f.kp T.eY.b .nil bj (O (Y 3) (O (ay f9 (Y 1) af) ae))) (O (aP G e () T.eY.m T.eY.f.kp T.eY.b .nil bj (O (ay bp (Y 3) af) (O (ay f9 (Y 1) af) ae))) ae)))))) aD) (ah (aK (PW.pt (jM (aC pE (Y 1) af (aE _)) (iH (aC aQ (Y 2) af (aE _))))) (ai (az (aO (O av (O (aP G e () T.eY.m T.eY.f.kp T.eY.b .nil bj (O (Y 3) (O (ay f9 (Y 1) af) ae))) (O (aP G e () T.eY.m T.eY.f.kp T.eY.b .nil bj (O (ay bp (Y 3) af) (O (ay f9 (Y 1) af) ae))) ae)))))) aD) (ai (az (aO (O av ae)))))))))))),?_}
   have X:2<=2^(hh+1):=by rw[NR];have:=Nat.two_pow_pos hh;lia
   walk_at "a"
   show{ls (),λl hl=>?_};have b3:=bI (n/10) (show(0:Int)<3 by decide);obtain⟨z,hz,ha⟩:=ip (zs:=LX) b3.1 b3.2;have v:=ak (o:=.lst [V.str "age",V.str "size",V.str "old"]) (ao.refl H) hl;have y:aH H l (.lst [V.str "age",V.str "size",V.str "old"]) l=some (.lst [V.str "age",V.str "size",V.str "old"]):=ag;generalize aH H l (.lst [V.str "age",V.str "size",V.str "old"])=H0 at v y⊢
   walk_at "a"
   show{l,_,_,U () {(),aW.of y,ha,au ?_}};clear y ha b3;show nR (qE ?_ (λN j=>?_))
   rotate_left
   ·walk_at "a"
    show kC (λe1=>?_) (λe1=>j);show U () {ls (),λt c=>q (.has z) _ _ (ak v c) (.has (aS.of ag)) (.has hz) (by change 1<=hh+1;show rd _) X}
   show qE ?_ (λN j=>?_)
   rotate_left
   ·have b9:=bI (n/10/3) (show(0:Int)<9 by decide);have ac:=qj;show U () {(),U () (kC (λ_=>bh ?_) (λ_=>(U () {(),U () (kC (λ_=>?_) (λ_=>j))})))}
    all_goals
     walk_at "a"
     show{ls (),λt c=>q (.least z _) _ _ (ak v c) (.least (aS.of ag)) (.least hz (by lia) (by lia)) (by change 1<=hh+1;lia) X}
   have Z:∀m:Nat,m<2^hh->m+1<2^(hh+1):=λm hm=>by rw[NR];lia
   have u:∀m k:Nat,m<2^hh->k<2^hh->m+k+1<2^(hh+1):=λm k hm hk=>by rw[NR];lia
   show qE ?_ (λN j=>?_)
   rotate_left
   ·show U () (r2 (U () (lD (λg=>?_) (λ_=>bV j))));show U () {(),U () (kC (λ_=>?_) (λ_=>j))};show U () (U () (r2 {n/10,i-1,(),by lia,by lia,λr R H1 I e J h3 h4=>{ls (),λt c=>?_}}));show q (.not r) _ _ (ak (v.trans I) c) (.not (aS.of ag) (e.kp (.of (ak (ao.refl _) c)))) (.not J) (by change r.hgt+1<=hh+1;show y_ h3) (Z _ h4)
   show qE ?_ (λN j=>?_)
   rotate_left
   ·show U () (r2 (U () (lD (λg=>?_) (λ_=>bV j))));show U () {(),U () (kC (λ_=>?_) (λ_=>j))};show U () (U () (r2 {n/10,i-1,(),by lia,by lia,λr R H1 I e J h3 h4=>?_}));show U () (r2 {{by decide,by decide},U () (r2 {n/10/40,i-1,(),by lia,by lia,λp B H2 L C D aa F=>{ls (),λt c=>?_}})});have M:=ak (o:=.tup [.str "both",R,B]) (ao.refl H2) c;show q (.both r p) _ _ (ak ((v.trans I).trans L) c) (.both (aS.of ag) ((e.kp (.of L)).kp (.of M)) (C.kp (.of M))) (.both J D) (by change max r.hgt p.hgt+1<=hh+1;lia) (by rw[show(Ru.both r p).cnt=r.cnt+p.cnt+1 from r_ (·+1) j1];show u _ _ h4 F)
   show qE ?_ (λN j=>?_)
   rotate_left
   ·show U () (r2 (U () (lD (λg=>?_) (λ_=>bV j))));show U () {(),U () (kC (λ_=>?_) (λ_=>j))};show U () (U () (r2 {n/10,i-1,(),by lia,by lia,λr R H1 I e J h3 h4=>?_}));show U () (r2 {{by decide,by decide},U () (r2 {n/10/40,i-1,(),by lia,by lia,λp B H2 L C D aa F=>{ls (),λt c=>?_}})});have M:=ak (o:=.tup [.str "either",R,B]) (ao.refl H2) c;show q (.either r p) _ _ (ak ((v.trans I).trans L) c) (.either (aS.of ag) ((e.kp (.of L)).kp (.of M)) (C.kp (.of M))) (.either J D) (by change max r.hgt p.hgt+1<=hh+1;lia) (by rw[show(Ru.either r p).cnt=r.cnt+p.cnt+1 from r_ (·+1) j1];show u _ _ h4 F)
   show{ls (),λt c=>q .any _ _ (ak v c) (.any (aS.of ag)) .any (by change 1<=hh+1;show rd _) X}
end
def zJ(m:Int)(j:Nat):Str:=LX.getD (((j:Int)+m)%3).toNat "age"
def JY:List Str:=["marka","markb","markc","markd","marke"]
def GM(m:Int):zJ m=zJ (m%3):=by
 funext j
 unfold zJ;rw[Int.add_emod,Int.add_emod (j:Int) (m%3),Int.emod_emod]
def El(m:Int):(JY++(List.range 3).map (zJ m)).Nodup/\∀z∈JY++(List.range 3).map (zJ m),HE z=true:=by rw[GM];have b:=bI m (show(0:Int)<3 by decide);rcases(by lia:m%3=0\/m%3=1\/m%3=2)with e|e|e<;>rw[e]<;>decide+kernel
def Jt{m:Int}{j:Nat}:vg [V.str "age",V.str "size",V.str "old"] ((0+(j:Int)+m)%3)=some (V.str (zJ m j)):=by rw[Int.zero_add];have b:=bI ((j:Int)+m) (show(0:Int)<3 by decide);unfold zJ;rcases(by lia:((j:Int)+m)%3=0\/((j:Int)+m)%3=1\/((j:Int)+m)%3=2)with e|e|e<;>rw[e]<;>rfl
def Kt(K:OF)(H:Hp)(v:V)(m:Str×Int):Prop:=∃b,v=.ref b/\aS K H b [.str m.1,.int m.2]
def rf(e:Kp H H')(h:Paired (Kt K H) c f):Paired (Kt K H') c f:=Paired.mapP h λv m⟨b,h1,h2⟩=>{b,h1,e.tq h2}
def Lm{a:Addr}{c:List V}{e:List (Str×Int)}(h:Paired (Kt K H) c e)(f:aS K H a c):lE K H e (.ref a):={a,c,(),f,Paired.length h,λi m hm=>by obtain⟨v,h1,b,rfl,h2⟩:=oq h i m hm;show(b,h1,h2,)}
def mE{ns:OQ}{i:Int}(h0:0<=i)(h1:i<(ns.length:Int)):∃z∈ns,vg (ns.map V.int) i=some (V.int z):=by obtain⟨v,b,hm⟩:=uG (xs:=ns.map V.int) h0 (by rw[b_];show h1);obtain⟨z,c,rfl⟩:=k_.mp hm;show(z,c,b,)
def A9:List (Str×Int):=[("marka",-2),("markb",-1),("markc",0),("markd",1),("marke",2)]
def EY:∀j∈List.range 5,vg ("abcde":Str).cps.toList (0+(j:Int))=some (97+j)/\A9[j]?=some (("mark":Str)++({#[97+j]}:Str),0+(j:Int)-2):=dk ()
inductive C8(K:OF)(vs:List V)(H:Hp)(Q:VK)(_E:XK):Prop|mk(n:Int)(_:vs=[.int n])(_:∀(t:Addr)(ms:List (Str×Int))H',ao H H'->lE K H' ms (.ref t)->(∀m∈ms,Wd m.1/\-cI<=m.2/\m.2<=cI)->(ms.map Prod.fst).Nodup->ms.length<=8->Q (.ref t) H')
section
def BX(T:Txt K mg a):aT P w K mg base d0 2 a.qR.x a.qR.d ["_law_number"] (C8 K):=by
 show T.qR.ok j8 λbc A outer s H r Q E hr h=>?_
 ·obtain⟨n,rfl,q⟩:=h;show{_,(ah (bn 1 j8.nd (bf ae)) (ah (eO o0 () (dA () T.eV (O af ae)) (oK 2 j8.nd) (ai (aK (aC aQ (ay aU (ay bp (Y 0) (gG K (bf (O af (O af (O af ae)))) (Y 2))) af) af (aE _)) (ah (bn 3 j8.nd (gG K (bf (O av (O av (O av ae)))) (ay aU (ay bP (Y 2) (ay bp (Y 0) af)) af))) (ai (aY (ja K () PySem.F.plainAttrs_list PySem.F.slot_list_append PySem.F.type_list_append fC (Y 1) (O (aO (O (Y 3) (O (ay f9 (ay aU (ay bp (Y 0) (gG K (bf (O af (O af (O af ae)))) (Y 2))) af) af) ae))) ae))))) aD))) (ah (aK (aC aQ (ay aU (ay bp (Y 0) af) af) af (aE _)) (ai (bn 1 j8.nd (ay ox (uu uL [] [2] [2] (am tN) (bW 2) (dA () T.eV (O af ae)) (λcl C s₀ H₀ ex=>{(lF uL [] 2),bR,(aO (O (ay jb av (yj zV av (Y 2) (λ_ _=>()))) (O (ay f9 (Y 2) af) ae)))})) (Y 1)))) aD) (ai (az (dB (fq K ()) (by rfl) T.d9 L2.bZ (O (Y 1) ae))))))),?_}
  show{ls (),λl hl=>?_};have s0:=ak (o:=.lst []) (ao.refl H) hl;show au {3,(),by show kl _,by show kl _,?_};show iP (lo:=0) (n:=3) (λi S H'=>ao H H'/\(Kv λ(g:List (Str×Int))(r:List V)=>An5 (H' l=some (.lst r)) (Paired (Kt K H') r g) ((g.map (·.1)).Sublist ((List.range i).map (zJ (n/8)))) ((∀m∈g,-100<=m.2/\m.2<=100)) (Kv λW X=>S=[some (.int n),some (.ref l),W,X]))) {s0,[],[],ag,.nil,List.nil_sublist _,(λm hm=>nomatch hm),_,_,()} ?_ ?_
  ·rintro i S Z hi⟨s1,g,r,hL,G,b,hb,W,X,rfl⟩;show au ?_
   walk_at "a"
   show{ls (),λl1 ap=>?_};have f:=ak (o:=.lst [V.int 1,V.int 2,V.int 4]) (ao.refl Z) ap;have u:aH Z l1 (.lst [V.int 1,V.int 2,V.int 4]) l1=some (.lst [V.int 1,V.int 2,V.int 4]):=ag;generalize aH Z l1 (.lst [V.int 1,V.int 2,V.int 4])=I at f u⊢;obtain⟨d,hd,ha⟩:=mE (ns:=[1,2,4]) (i:=0+(i:Int)) (by show kl _) (by change _<(3:Int);lia);have bi:d=1\/d=2\/d=4:=by simpa using hd
   show U () {l1,_,_,U () {(),aW.of u,ha,_,U () {(),{by lia,by lia},_,U () {(),(show(0:Int)<2 by decide),(),U () ?_}}}};show kC (λ_=>?_) (λ_=>?_)
   ·show{ls (),λl2 as=>?_};have J:=ak (o:=.lst [V.str "age",V.str "size",V.str "old"]) (ao.refl I) as;have v:aH I l2 (.lst [V.str "age",V.str "size",V.str "old"]) l2=some (.lst [V.str "age",V.str "size",V.str "old"]):=ag;generalize aH I l2 (.lst [V.str "age",V.str "size",V.str "old"])=H3 at J v⊢
    walk_at "a"
    show{l2,_,_,U () {(),aW.of v,Jt,au ?_}};have ax:=J _ _ (f _ _ hL);show U () {.inl {(),_,aW.of ax},U () (U () {ls (),λl3 a2=>?_})};have s4:=ak (o:=.lst [V.int 24,V.int 240,V.int 2400]) (ao.refl H3) a2;have y:aH H3 l3 (.lst [V.int 24,V.int 240,V.int 2400]) l3=some (.lst [V.int 24,V.int 240,V.int 2400]):=ag;generalize aH H3 l3 (.lst [V.int 24,V.int 240,V.int 2400])=H4 at s4 y⊢;obtain⟨k,a3,a5⟩:=mE (ns:=[24,240,2400]) (i:=0+(i:Int)) (by show kl _) (by change _<(3:Int);lia);have bb:k=24\/k=240\/k=2400:=by simpa using a3
    have bl:=bI (n/k) (show(0:Int)<10 by decide);show U () {l3,_,_,U () {(),aW.of y,a5,_,U () {(),{by lia,by lia},_,U () {(),(show(0:Int)<10 by decide),_,U () {(),ls (),λt ht=>?_}}}}};have s5:=ak (o:=.tup [.str (zJ (n/8) i),.int (n/k%10-5)]) (ao.refl H4) ht;have aa:aH H4 t (.tup [.str (zJ (n/8) i),.int (n/k%10-5)]) t=some (.tup [.str (zJ (n/8) i),.int (n/k%10-5)]):=ag;have s6:ao Z (aH H4 t (.tup [.str (zJ (n/8) i),.int (n/k%10-5)])):=((f.trans J).trans s4).trans s5;generalize aH H4 t (.tup [.str (zJ (n/8) i),.int (n/k%10-5)])=H5 at s6 aa⊢;have ac:=s6 _ _ hL;have a6:=Paired.length G;have L:=b.length_le;rw[b_,b_,ri]at L;show rA ac (by rw[ji];lia) {bu (s1.trans s6) hl,g++[(zJ (n/8) i,n/k%10-5)],_,ag,?_,?_,λm hm=>?_,_,_,()}
    ·show rf (.lst ac) (Paired.snoc (rf (.of s6) G) {t,(),aS.of aa})
    ·rw[ir,NY,ir];show b.append (Om _)
    ·rcases List.mem_append.mp hm with z|z
     ·show hb m z
     ·rw[List.mem_singleton.mp z];change-100<=n/k%10-5/\n/k%10-5<=100;lia
   ·show{s1.trans f,g,r,f _ _ hL,rf (.of f) G,?_,hb,_,_,()};rw[NY,ir];show b.trans (List.sublist_append_left _ _)
  ·rintro S Z⟨s1,g,r,hL,G,b,hb,W,X,rfl⟩
   walk_at "a"
   show Ic (λS H'=>ao H H'/\(Ex3 λ(l':Addr)(g:List (Str×Int))(r:List V)=>An5 (H' l'=some (.lst r)) (Paired (Kt K H') r g) ((g.map (·.1)).Sublist (JY++(List.range 3).map (zJ (n/8)))) ((∀m∈g,-100<=m.2/\m.2<=100)) (Kv λW X=>S=[some (.int n),some (.ref l'),W,X]))) ?A (λN hJ=>?B)
   case B=>
    show kC (λ_=>?_) (λ_=>hJ _ _ {s1,l,g,r,hL,G,b.trans (List.sublist_append_right _ _),hb,_,_,()});show{5,(),by show kl _,by show kl _,λD hD=>?_};show ff (K:=K) (lo:=0) (n:=5) (λj p H'=>ao Z H'/\H' D=some (.lst p)/\Paired (Kt K H') p (A9.take j)) {ak (ao.refl _) hD,ag,.nil} ?_ ?_
    ·rintro j p I hj⟨f,M,c⟩;obtain⟨e1,e2⟩:=EY j (wr.mpr hj);have R:=Paired.length c;rw[oa]at R;show au (iy (bh ?_));show U () {"abcde",_,97+j,(),(),cG (dk ()),e1,"mark",({#[97+j]}:Str),(),(),cG (show 4+1<=65536 by decide),U () (r2 {ls (),λt ht=>?_})};have J:=ak (o:=.tup [.str (("mark":Str)++({#[97+j]}:Str)),.int (0+(j:Int)-2)]) (ao.refl I) ht;have ad:=J _ _ M;show{ad,by rw[ji];lia,lf hj {bu (f.trans J) hD,ag,?_}};rw[cg e2];show rf (.lst ad) (Paired.snoc (rf (.of J) c) {t,(),aS.of ag})
    ·rintro p I⟨f,M,c⟩;have R:=Paired.length c;have a6:=Paired.length G;have L:=b.length_le;rw[b_,b_,ri]at L;show U () {D,l,_,U () {(),M,f _ _ hL,by rw[ji];have:p.length=5:=R;lia,λl' al=>au (hJ _ _ {ak (s1.trans f) al,l',A9++g,_,ag,rf (.new al) (tS c (rf (.of f) G)),?_,λm hm=>?_,_,_,()})}}
     ·rw[ir];show(Om _).append b
     ·rcases List.mem_append.mp hm with z|z
      ·show(by decide:∀m∈A9,-100<=m.2/\m.2<=100) m z
      ·show hb m z
   case A=>rintro S I⟨f,l',a7,bt,a8,c,e,an,W,X,rfl⟩;show U () {l',U () (.inl {aW.of a8,λt ht=>?_})};obtain⟨m1,m2⟩:=El (n/8);have bz:=qj;show q t a7 _ (ak f ht) (Lm (rf (.new ht) c) (aS.of ag)) (λm hm=>{CG (m2 _ (e.subset (k_.mpr {m,hm,()}))),by have:=an m hm;lia,by have:=an m hm;lia}) (e.nodup m1) (by have:=e.length_le;rw[b_]at this;show this)
end
def xz(p:Nat):Prop:=p∈[2,3,5,7,11,13,17,37,61]
def xz.le(h:xz p):2<=p/\p<=61:=(by decide:∀p∈[2,3,5,7,11,13,17,37,61],2<=p/\p<=61) p h
structure wu where
 pl:Addr
 L:Addr
 T:Addr
def CD(K:OF)(H:Hp)(v:V)(t:Str×Nat):Prop:=∃b,v=.ref b/\aS K H b [.str t.1,.int t.2]
def CD.kp(e:Kp H H')(h:Paired (CD K H) c f):Paired (CD K H') c f:=Paired.mapP h λv m⟨b,h1,h2⟩=>{b,h1,e.tq h2}
structure p9(K:OF)(H:Hp)(p:Nat)(sa:Int)(ns:OL)(ts:List (Str×Nat))(A:wu):Prop where
 pl:H A.pl=some (.lst [.int p,.int sa,.ref A.L,.ref A.T])L:H A.L=some (.lst (ns.map V.str))T:∃us,H A.T=some (.lst us)/\Paired (CD K H) us ts
 n1:A.pl≠A.L
 n2:A.pl≠A.T
 n3:A.L≠A.T
def p9.same(h:p9 K H p sa ns c A)(e:ao H H'):p9 K H' p sa ns c A:=let⟨b,h1,h2⟩:=h.T
 {e _ _ h.pl,e _ _ h.L,{b,e _ _ h1,CD.kp (.of e) h2},h.n1,h.n2,h.n3}
inductive FX(K:OF)(vs:List V)(H:Hp)(Q:VK)(_E:XK):Prop|mk(sc:Addr)(ns:OQ)(_:vs=[.ref sc])(_:aW K H sc (ns.map V.int))(_:ns.length<=63)(_:∀(A:wu)(p:Nat)(sa:Int)H',ao H H'->H A.pl=none->H A.L=none->H A.T=none->p9 K H' p sa [] [] A->xz p->(0<=sa/\sa<=cI)->Q (.ref A.pl) H')
section
def DW(T:Txt K mg a):aT P w K mg base d0 3 a.wy.x a.wy.d ["_law_script"] (FX K):=by
 show T.wy.ok tE λW A outer s H vs Q E F h=>?_
 ·obtain⟨G,ns,rfl,I,J,q⟩:=h;have X:=qi;show{_,(ah (bn 1 tE.nd (pc T.eB (cN T) F (O (Y 0) (O af (O af ae))))) (ah (bn 2 tE.nd (gG K (bf (O af (O af (O af (O af (O af (O af (O af (O (gG K (bf (O af (O af (O af (O af ae))))) (ay aU (ay bp (Y 1) af) af)) ae))))))))) (ay aU (Y 1) af))) (ai (az (bf (O (Y 2) (O (ay aU (pc T.jj (rc T) F (O (Y 0) (O af ae))) (ay bP (ay tZ af af) af)) (O (bf ae) (O (bf ae) ae))))))))),?_}
  show U () {G,ns,0,1,(),I,J,{by decide,by decide},{by decide,by decide},au ?_};generalize cV ns 0 1=x;show{ls (),λj r=>?_};have M:=ak (o:=.lst [V.int 5,V.int 17,V.int 37,V.int 61]) (ao.refl H) r;have e:aH H j (.lst [V.int 5,V.int 17,V.int 37,V.int 61]) j=some (.lst [V.int 5,V.int 17,V.int 37,V.int 61]):=ag;generalize aH H j (.lst [V.int 5,V.int 17,V.int 37,V.int 61])=t at M e⊢;have b4:=bI (x/8) (show(0:Int)<4 by decide);have u:=bI x (show(0:Int)<8 by decide);obtain⟨z,v,N⟩:=mE (ns:=[5,17,37,61]) b4.1 b4.2
  walk_at "a"
  show{j,_,_,U () {(),aW.of e,N,ls (),λk y=>?_}};have R:=ak (o:=.lst [V.int 2,V.int 3,V.int 5,V.int 7,V.int 11,V.int 13,V.int 7,V.int z]) (ao.refl t) y;have f:aH t k (.lst [V.int 2,V.int 3,V.int 5,V.int 7,V.int 11,V.int 13,V.int 7,V.int z]) k=some (.lst [V.int 2,V.int 3,V.int 5,V.int 7,V.int 11,V.int 13,V.int 7,V.int z]):=ag;generalize aH t k (.lst [V.int 2,V.int 3,V.int 5,V.int 7,V.int 11,V.int 13,V.int 7,V.int z])=l at R f⊢;obtain⟨p,B,g⟩:=mE (ns:=[2,3,5,7,11,13,7,z]) u.1 u.2
  walk_at "a"
  show{k,_,_,U () {(),aW.of f,g,au ?_}};have C:xz p.toNat/\0<=p:=by
   simp only[so,o_,ML]at B v;rcases B with rfl|rfl|rfl|rfl|rfl|rfl|rfl|rfl
   all_goals try show{by unfold xz;decide,by decide}
   rcases v with rfl|rfl|rfl|rfl
   all_goals show{by unfold xz;decide,by decide}
  obtain⟨pn,rfl⟩:∃n:Nat,p=n:={p.toNat,by lia};clear B g f v N e b4 u;have i:=M.trans R;show U () (U () {G,ns,1,(),i.seq I,J,?_});generalize we ns 1=c;have Z:=bI c (show(0:Int)<cI+1 by lia)
  walk_at "a"
  show{ls (),λL D=>{ls (),λT m=>{ls (),λpl b=>?_}}};have n3:L≠T:=λz=>by rw[<-z,ag]at m;cases m
  have n2:pl≠T:=λz=>by rw[z,ag]at b;cases b
  have n1:pl≠L:=λz=>by rw[z,aq n3,ag]at b;cases b
  have S:ao l (aH (aH l L (.lst [])) T (.lst [])):=ak (ak (ao.refl l) D) m;show q (pl,L,T,) pn _ _ (i.trans (ak S b)) ((i.trans S).free b) (i.free D) ((i.trans (ak (ao.refl l) D)).free m) {ag,by change aH _ _ _ L=_;rw[aq (o8 n1),aq n3,ag];rfl,{[],by change aH _ _ _ T=_;rw[aq (o8 n2),ag],.nil},n1,n2,n3} C.1 {Z.1,by lia}
end
def iK{t u:TS}{D:jl}{c:St}(h:∀v:TS,v=u->rK t v D c H):rK t u D c H:=h u ()
def gc(M:bq):List Str:=M.las.map cb.nm
def iG(M:bq):List (Str×Nat):=M.trs.map λt=>(t.nm,t.arms.length)
def vP(M:bq):Dd->List Str|.layer nm _=>gc M++[nm]|_=>gc M
def sN(M:bq):Dd->List (Str×Nat)|.trial x=>iG M++[(x.nm,x.arms.length)]|_=>iG M
def fW(ns:OQ)(m:Nat):List Str:=(List.range m).map λ(j:Nat)=>dw j (cV ns 3 4)
def Fs(ns:OQ)(h:m<=4):(fW ns m).length=m/\(fW ns m).Nodup/\∀x∈fW ns m,Wd x:=by
 show{by unfold fW;rw[b_,ri],?_,λx c=>?_}
 ·show List.pairwise_iff_getElem.mpr λi j hi b d e=>?_;unfold fW at e hi b;rw[b_,ri]at hi b;rw[Ox,Ox,List.getElem_range,List.getElem_range]at e;have:=qg {by show kl _,by lia} {by show kl _,by lia} e;lia
 ·obtain⟨j,_,rfl⟩:=k_.mp c;show sK _ _
structure n6(ns:OQ)(M:bq):Prop where
 ln:∀(i:Nat)(l:cb),M.las[i]?=some l->l.nm=dw i (cV ns 1 2)/\l.sl=(cV ns 2 2+i)%((M.p:Int)+1)tn:∀(j:Nat)(t:du),M.trs[j]?=some t->t.nm=dw j (cV ns 2 3)/\t.arms=fW ns t.arms.length
 lp:M.las.length<=M.p+1
 pr:xz M.p
def Hy(ns:OQ)(M:bq):Dd->Prop|.layer nm sl=>nm=dw M.las.length (cV ns 1 2)/\sl=(cV ns 2 2+M.las.length)%((M.p:Int)+1)/\M.las.length<M.p+1|.trial x=>x.nm=dw M.trs.length (cV ns 2 3)/\x.arms=fW ns x.arms.length|_=>True
def LS(A:wu)(H H':Hp):Prop:=∃o,(o=A.L\/o=A.T)/\Kp H H'/\∀b ob,H b=some ob->b≠o->H' b=some ob
theorem LS.of(s:ao H H'):LS A H H':={A.L,.inl (),.of s,λb o h _=>s b o h}
def ix(K:OF)(ns:OQ)(M:bq)(A:wu)(H:Hp)(Q:VK):Prop:=∀(b:Addr)(d:Dd)(c:List V)(H':Hp),LS A H H'->aS K H' b c->jp K H' M d c->p9 K H' M.p M.salt (vP M d) (sN M d) A->Hy ns M d->(M.trs.length=0->d.adds=true)->Q (.ref b) H'
def ix.same(h:ix K ns M A H Q)(s:ao H c):ix K ns M A c Q:=λe d f H'⟨o,h1,h2,h3⟩=>h e d f H' {o,h1,Kp.trans (.of s) h2,λb ob g=>h3 b ob (s b ob g)}
structure uN(K:OF)(H:Hp)(sc:Addr)(ns:OQ)(M:bq)(A:wu)(c:Nat):Prop where
 sq:aW K H sc (ns.map V.int)len:ns.length<=63
 pl:p9 K H M.p M.salt (gc M) (iG M) A
 ok:j0 M c
 pn:n6 ns M
 n4:∀H',(∀b ob,H b=some ob->b≠A.L->H' b=some ob)->aW K H' sc (ns.map V.int)
theorem uN.same(h:uN K H f ns M A c)(s:ao H H'):uN K H' f ns M A c:={s.seq h.sq,h.len,h.pl.same s,h.ok,h.pn,λd g=>h.n4 d λb ob e n=>g b ob (s b ob e) n}
def p9.addL(h:p9 K H p sa ns c A)(x:Str):p9 K (aH H A.L (.lst (ns.map V.str++[.str x]))) p sa (ns++[x]) c A:=let⟨b,h1,h2⟩:=h.T
 {by rw[aq h.n1];show h.pl,by rw[ag,ir];rfl,{b,by rw[aq (o8 h.n3)];show h1,CD.kp (.lst h.L) h2},h.n1,h.n2,h.n3}
def p9.addT(h:p9 K H p sa ns c A)(h1:H A.T=some (.lst e))(h2:Paired (CD K H) e c)(f:aS K H b [.str x.1,.int x.2]):p9 K (aH H A.T (.lst (e++[.ref b]))) p sa ns (c++[x]) A:={by rw[aq h.n2];show h.pl,by rw[aq h.n3];show h.L,{_,ag,CD.kp (.lst h1) (Paired.snoc h2 {b,(),f})},h.n1,h.n2,h.n3}
inductive IH(K:OF)(vs:List V)(H:Hp)(Q:VK)(_E:XK):Prop|mk(sc:Addr)(ns:OQ)(M:bq)(A:wu)(c:Nat)(_:vs=[.ref sc,.ref A.pl])(_:uN K H sc ns M A c)(_:M.las.length<4)(_:M.las.length<M.p+1)(_:ix K ns M A H Q)
def BI(h:n6 ns M)(c:M.las.length<M.p+1):(cV ns 2 2+M.las.length)%((M.p:Int)+1)∉M.las.map cb.sl:=λz=>by obtain⟨l,hm,e⟩:=k_.mp z;obtain⟨i,hi⟩:=iq.mp hm;have b:=(d_.mp hi).1;rw[(h.ln i l hi).2]at e;have h1:((cV ns 2 2+M.las.length)-(cV ns 2 2+i))%((M.p:Int)+1)=0:=Int.emod_eq_emod_iff_emod_sub_eq_zero.mp e.symm;rw[show(cV ns 2 2+(M.las.length:Int))-(cV ns 2 2+i)=((M.las.length-i:Nat):Int)by lia,Op (by show kl _) (by lia)]at h1;lia
def B9(h:n6 ns M)(c:M.las.length<4):dw M.las.length (cV ns 1 2)∉M.las.map cb.nm:=λz=>by obtain⟨l,hm,e⟩:=k_.mp z;obtain⟨i,hi⟩:=iq.mp hm;have b:=(d_.mp hi).1;rw[(h.ln i l hi).1]at e;have:=qg {by show kl _,by lia} {by show kl _,by lia} e;lia
def Bt(h:n6 ns M)(c:M.trs.length<10):dw M.trs.length (cV ns 2 3)∉M.trs.map du.nm:=λz=>by obtain⟨t,hm,e⟩:=k_.mp z;obtain⟨i,hi⟩:=iq.mp hm;have b:=(d_.mp hi).1;rw[(h.tn i t hi).1]at e;have:=qg {by show kl _,by lia} {by show kl _,by lia} e;lia
section
def u7(T:Txt K mg a):aT P w K mg base d0 3 a.gY.x a.gY.d ["_law_script","_law_plan_here"] (IH K):=by
 show T.gY.ok jJ λC A outer s H I Q E r h=>?_
 ·obtain⟨z,ns,M,A,c,rfl,g,h4,B,q⟩:=h;show{_,(ah (bn 2 jJ.nd (aA (aI K ()) (by rfl) T.bE L2.aJ (O (gG K (Y 1) af) ae))) (ah (bn 3 jJ.nd (pc T.rJ (uh T) r (O (Y 2) (O (pc T.eB (cN T) r (O (Y 0) (O af (O af ae)))) ae)))) (ah (aY (ja K () PySem.F.plainAttrs_list PySem.F.slot_list_append PySem.F.type_list_append fC (gG K (Y 1) af) (O (Y 3) ae))) (ai (az (aO (O av (O (Y 3) (O (ay aU (ay bP (pc T.eB (cN T) r (O (Y 0) (O af (O af ae)))) (Y 2)) (ay bP (gG K (Y 1) af) af)) ae))))))))),?_}
  have t:=g.pl;have j:(gc M).length=M.las.length:=b_ _;show U () (rX (aW.of t.pl) (aj (k:=2) ()) {_,M.las.length,(),.inl {_,aW.of t.L,by rw[b_,j]},au ?_});show U () (U () {z,ns,1,2,(),g.sq,g.len,{by decide,by decide},{by decide,by decide},(M.las.length:Int),cV ns 1 2,(),λl m=>au ?_});have f:=t.same m;show U () (rX (aW.of f.pl) (aj (k:=2) ()) {.inl {(),_,aW.of f.L},U () (rA f.L (by rw[b_,j,ji];show n7 h4 (l_ ())) ?_)});have i:=f.addL (dw M.las.length (cV ns 1 2));have kp:Kp l (aH l A.L (.lst ((gc M).map V.str++[.str (dw M.las.length (cV ns 1 2))]))):=.lst f.L;have u:∀b ob,l b=some ob->b≠A.L->aH l A.L (.lst ((gc M).map V.str++[.str (dw M.las.length (cV ns 1 2))])) b=some ob:=λb ob e n=>by rw[aq n];show e
  generalize aH l A.L (.lst ((gc M).map V.str++[.str (dw M.las.length (cV ns 1 2))]))=D at i kp u⊢;have bs:=bI (cV ns 2 2+M.las.length) (show(0:Int)<(M.p:Int)+1 by show tx.mpr (rd _));show U () (U () {z,ns,2,2,(),(g.same m).n4 _ u,g.len,{by decide,by decide},{by decide,by decide},U () (r2 (U () (rX (aW.of i.pl) (aj (k:=0) ()) (r2 (r2 {by change(0:Int)<(M.p:Int)+1;show tx.mpr (rd _),ls (),λG v=>?_})))))});have y:=ak (o:=.tup [.str "layer",.str (dw M.las.length (cV ns 1 2)),.int ((cV ns 2 2+M.las.length)%((M.p:Int)+1))]) (ao.refl D) v;show q G (.layer _ _) _ _ {A.L,.inl (),Kp.trans (.of m) (Kp.trans kp (.of y)),λb ob e n=>y _ _ (u b ob (m _ _ e) n)} (aS.of ag) (.layer (sK _ _) (B9 g.pn h4) {bs.1,by lia} (BI g.pn B) h4) (i.same y) {(),(),B} λ_=>()
end
inductive IG(K:OF)(vs:List V)(H:Hp)(Q:VK)(_E:XK):Prop|mk(sc:Addr)(ns:OQ)(M:bq)(A:wu)(c:Nat)(n:Int)(_:vs=[.ref sc,.ref A.pl,.int n])(_:uN K H sc ns M A c)(_:M.trs.length<10)(_:0<M.las.length)(_:ix K ns M A H Q)
section
def u6(T:Txt K mg a):aT P w K mg base d0 5 a.gX.x a.gX.d ["_law_script","_law_plan_here","_law_number"] (IG K):=by
 show T.gX.ok cX λdT A outer s H vs Q E X h=>?_
 ·obtain⟨sc,ns,M,A,c,n,rfl,Z,ax,dV,q⟩:=h;show{_,(ah (bn 3 cX.nd (aA (aI K ()) (by rfl) T.bE L2.aJ (O (gG K (Y 1) af) ae))) (ah (bn 4 cX.nd (pc T.rJ (uh T) X (O (Y 3) (O (pc T.eB (cN T) X (O (Y 0) (O af (O af ae)))) ae)))) (ah (bn 5 cX.nd (gG K (gG K (Y 1) af) (ay aU (Y 2) (aA (aI K ()) (by rfl) T.bE L2.aJ (O (gG K (Y 1) af) ae))))) (ah (bn 6 cX.nd (dB (fq K ()) (by rfl) T.d9 L2.bZ (O (uu k7 [] [9] [9] (am kS) (bW 9) (dA () T.eV (O (ay bP af (ay aU (ay bp (Y 2) af) af)) ae)) (λcl C s₀ H₀ ex=>{(lF k7 [] 9),bR,(pc T.rJ (uh T) X (O (Y 9) (O (pc T.eB (cN T) X (O (Y 0) (O af (O af ae)))) ae)))})) ae))) (ah (bn 7 cX.nd (bf ae)) (ah (bn 8 cX.nd (pc T.eB (cN T) X (O (Y 0) (O (ay bP af (Y 3)) (O af ae))))) (ah (eO o0 () (dA () T.eV (O (aA (qH ()) (by rfl) T.Ea L2.uC (O af (O (Y 3) ae))) ae)) (oK 9 cX.nd) (ai (aK (aC aQ (ay aU (ay bp (Y 8) (gG K (bf (O af (O af (O af (O af (O af (O af (O af (O af ae))))))))) (Y 9))) af) af (aE _)) (ai (aY (ja K () PySem.F.plainAttrs_list PySem.F.slot_list_append PySem.F.type_list_append fC (Y 7) (O (cA K (gG K (gG K (Y 1) af) (ay f9 (ay f9 (Y 3) af) (Y 9))) af) ae)))) aD))) (ah (aY (ja K () PySem.F.plainAttrs_list PySem.F.slot_list_append PySem.F.type_list_append fC (gG K (Y 1) af) (O (aO (O (Y 4) (O (aA (aI K ()) (by rfl) T.bE L2.aJ (O (Y 6) ae)) ae))) ae))) (ai (az (aO (O av (O (Y 4) (O (Y 5) (O (Y 6) (O (aP ((yw T 3).mono (by decide)) X () T.eY.m T.eY.f.kp T.eY.b .nil bj (O (ay bp (Y 2) af) (O af ae))) (O (dB (fq K ()) (by rfl) T.d9 L2.bZ (O (Y 7) ae)) ae))))))))))))))))),?_}
  have hP:=Z.pl;have d1:(gc M).length=M.las.length:=b_ _;have cK:(iG M).length=M.trs.length:=b_ _;have l4:=Z.ok.l4;obtain⟨us,a2,a3⟩:=hP.T;have a5:=Paired.length a3;rw[cK]at a5;show iK λu1 g=>?_;show U () (rX (aW.of hP.pl) (aj (k:=3) ()) {_,M.trs.length,(),.inl {_,aW.of a2,by rw[a5]},au (nR ?_)});subst g;show iK λu1 g=>?_;show U () (U () {sc,ns,2,3,(),Z.sq,Z.len,{by decide,by decide},{by decide,by decide},(M.trs.length:Int),cV ns 2 3,(),λH1 s1=>au (nR ?_)});subst g;show iK λu1 g=>?_;have u:=Z.same s1;have bl:=bI n (show(0:Int)<((gc M).length:Int)by lia);obtain⟨hm,cS,c0⟩:=ip bl.1 bl.2;show U () (rX (aW.of u.pl.pl) (aj (k:=2) ()) (U () (U () (rX (aW.of u.pl.pl) (aj (k:=2) ()) {_,(gc M).length,(),.inl {_,aW.of u.pl.L,by rw[b_]},_,U () {(),by change(0:Int)<((gc M).length:Int);lia,A.L,_,_,U () {(),aW.of u.pl.L,c0,au (nR ?_)}}}))));subst g;show iK λu1 g=>?_;have b4:=bI (n/4) (show(0:Int)<4 by decide)
  walk_at "a"
  show{by lia,by lia,λD hD=>?_};obtain⟨m,c1,bb,em⟩:∃m:Nat,1<=m/\m<=4/\1+n/4%4=(m:Int):={(1+n/4%4).toNat,by lia,by lia,by lia};rw[em];obtain⟨al,bc,aw⟩:=Fs ns bb;show ff (K:=K) (lo:=0) (n:=m) (λj aa H'=>ao H1 H'/\H' D=some (.lst aa)/\aa=((fW ns m).take j).map V.str) {ak (ao.refl _) hD,ag,()} ?_ ?_
  ·rintro j aa H2 hj⟨s2,J,rfl⟩;rw[show(0:Int)+(j:Int)=((j:Nat):Int)by lia];show au (iy (bh ?_));show U () (U () {sc,ns,3,4,(),s2.seq u.sq,Z.len,{by decide,by decide},{by decide,by decide},(j:Int),cV ns 3 4,(),λH3 s3=>?_});show{s3 _ _ J,by rw[b_,oa,ji];show si (Nb _ _) (by rw[al];omega),lf hj {bu (s2.trans s3) hD,ag,?_}};have e:(fW ns m)[j]?=some (dw (j:Int) (cV ns 3 4)):=by unfold fW;rw[ig,List.getElem?_range hj];rfl
   rw[cg e,ir];rfl
  ·rintro aa H2⟨s2,J,rfl⟩;rw[ku (MY al)]at J;show{D,U () (.inl {aW.of J,λar bi=>au (nR ?_)})};subst g;show iK λu1 g=>?_;have s3:ao H1 (aH H2 ar (.tup ((fW ns m).map V.str))):=ak s2 bi;have ac:aH H2 ar (.tup ((fW ns m).map V.str)) ar=some (.tup ((fW ns m).map V.str)):=ag;generalize aH H2 ar (.tup ((fW ns m).map V.str))=H3 at s3 ac⊢;clear J s2 bi hD;show{ls (),λsl a6=>au (nR ?_)};subst g;show iK λu1 g=>?_;have s4:=ak (o:=.lst []) s3 a6;have ad:=ak (o:=.lst []) (ao.refl H3) a6 _ _ ac;have bt:=u.same s4;have an:H1 sl=none:=s3.free a6;have ap:aH H3 sl (.lst []) sl=some (.lst []):=ag;generalize aH H3 sl (.lst [])=H4 at s4 ad bt ap⊢;show U () (U () (r2 {sc,ns,5+(M.trs.length:Int),7,(),bt.sq,Z.len,{by show kl _,by lia},{by decide,by decide},au (nR ?_)}));subst g;show iK λu1 g=>?_;generalize cV ns (5+(M.trs.length:Int)) 7=mr;obtain⟨kk,k8,kt,a7⟩:∃k:Nat,k<=8/\k<=M.trs.length/\(if(M.trs.length:Int)<8 then(M.trs.length:Int)else 8)=(k:Int):={min 8 M.trs.length,Nat.min_le_left _ _,Nb _ _,by split<;>omega};show U () {_,U () (U () {by rw[a7];lia,by rw[a7];lia,?_})};rw[a7];have nd:((M.trs.map du.nm).reverse).Nodup:=List.pairwise_reverse.mpr (List.Pairwise.imp (λh=>o8 h) Z.ok.tn);have d2:((M.trs.map du.nm).reverse).length=M.trs.length:=by rw[Nt,b_]
   show Ad (lo:=0) (n:=kk) (λi σ H'=>ao H1 H'/\H' ar=some (.tup ((fW ns m).map V.str))/\∃(I:OL),H' sl=some (.lst (I.map V.str))/\I.Sublist ((M.trs.map du.nm).reverse.take i)/\∃v9,σ=[some (.ref sc),some (.ref A.pl),some (.int n),some (.int M.trs.length),some (.str (dw M.trs.length (cV ns 2 3))),some (.str hm),some (.ref ar),some (.ref sl),some (.int mr),v9]) {s4,ad,[],ap,List.nil_sublist _,_,()} ?_ ?_
   ·rintro i σ H5 hi⟨S,l,I,hz,p,v9,rfl⟩N R B hN;have i8:i<8:=n7 hi k8;have it:i<M.trs.length:=n7 hi kt;show au ?_;show U () {ls (),λl5 c2=>?_};show fM c2 λH6 y c3=>?_;obtain⟨d,hd,ha⟩:=mE (ns:=[1,4,16,64,256,1024,4096,16384]) (i:=0+(i:Int)) (by show kl _) (by change _<(8:Int);lia);have c4:=(by decide:∀d∈[(1:Int),4,16,64,256,1024,4096,16384],0<d/\d<1073741824) d hd;show U () {l5,_,_,U () {(),aW.of c3,ha,_,U () {(),c4,_,U () {(),(show(0:Int)<4 by decide),(),U () ?_}}}};have a8:(M.trs.map du.nm).reverse[i]?=(M.trs.map du.nm)[M.trs.length-1-i]?:=by rw[List.getElem?_reverse (by rw[b_];show it),b_]
    obtain⟨t,ht⟩:∃t,M.trs[M.trs.length-1-i]?=some t:={_,il (si (Nat.sub_le _ _) (Nat.sub_lt (Nat.zero_lt_of_lt it) Nat.one_pos))};rw[ig,ht]at a8;show kC (λ_=>?_) (λ_=>hN _ _ {S.trans y,y _ _ l,I,y _ _ hz,by rw[cg a8];show p.trans (List.sublist_append_left _ _),_,()});have da:=u.pl.same (S.trans y);obtain⟨v,hv,b,rfl,hb⟩:=oq a3 (M.trs.length-1-i) (t.nm,t.arms.length) (by unfold iG;rw[ig,ht];rfl);have G:=(s1.trans (S.trans y)) _ _ a2;have bz:=y _ _ hz;have bQ:=lm p.length_le (E_ _ _);show U () {.inl {(),_,aW.of bz},U () (rX (aW.of da.pl) (aj (k:=3) ()) (U () (r2 (U () (r2 ?_)))))};show rX (aW.of G) (by rw[show(M.trs.length:Int)-1-(0+(i:Int))=((M.trs.length-1-i:Nat):Int)by lia];show aj hv) (rX (ao.tseq (s1.trans (S.trans y)) hb) (aj (k:=0) ()) ?_);show rA bz (by rw[b_,ji];lia) (hN _ _ {bu (S.trans y) an,by rw[aq λz=>by rw[z,hz]at l;cases l];show y _ _ l,I++[t.nm],by rw[ag,ir];rfl,?_,_,()});rw[cg a8];show p.append (Om _)
   ·rintro σ H5⟨S,l,I,hz,p,v9,rfl⟩;show nR ?_;subst g;show iK λu1 g=>?_;have b0:=u.same S;have dc:=(p.trans (NB _ _)).nodup nd;have bQ:=lm (lm p.length_le (E_ _ _)) k8;have W:=(s1.trans S) _ _ a2;have b8:=CD.kp (.of (s1.trans S)) a3;show U () (rX (aW.of b0.pl.pl) (aj (k:=3) ()) {.inl {(),_,aW.of W},U () (U () {_,m,(),.inr {_,aS.of l,by rw[b_,al]},ls (),λb hb=>?_})});show fM hb λH6 y di=>?_;have G:=y _ _ W;show rA G (by rw[a5,ji];show n7 ax (l_ ())) (nR ?_);subst g;have b9:=(b0.pl.same y).addT G (CD.kp (.of y) b8) (x:=(dw M.trs.length (cV ns 2 3),m)) (aS.of di);have kp:Kp H6 (aH H6 A.T (.lst (us++[.ref b]))):=.lst G;have hk:∀d ob,H6 d=some ob->d≠A.T->aH H6 A.T (.lst (us++[.ref b])) d=some ob:=λd ob e n=>by rw[aq n];show e
    generalize aH H6 A.T (.lst (us++[.ref b]))=H7 at b9 kp hk⊢;have nT:∀{d:Addr},H1 d=none->d≠A.T:=λh z=>by rw[z,u.pl.T.choose_spec.1]at h;cases h
    have cc:=hk _ _ (y _ _ l) (λz=>by rw[z,W]at l;cases l);have dt:=hk _ _ (y _ _ hz) (nT an);show U () (U () (U () (U () (r2 {{by decide,by decide},n/16,3,(),by decide,by decide,λr rv H8 s8 X ho hh hc=>?_}))));show U () {sl,U () (.inl {aW.of (s8 _ _ dt),λsh dK=>{ls (),λdv ci=>?_}})};obtain⟨ra,rfl⟩:∃ra,rv=.ref ra:=by cases X<;>show{_,()}
    have s9:=ak (o:=.tup (I.map V.str)) (ao.refl H8) dK;have as:aH H8 sh (.tup (I.map V.str)) sh=some (.tup (I.map V.str)):=ag;generalize aH H8 sh (.tup (I.map V.str))=H9 at s9 as ci⊢;have sa:=ak (o:=.tup [.str "trial",.str (dw M.trs.length (cV ns 2 3)),.str hm,.ref ar,.ref ra,.ref sh]) (ao.refl H9) ci;show q dv (.trial {dw M.trs.length (cV ns 2 3),hm,fW ns m,r,I,false,false,[]}) _ _ {A.T,.inr (),Kp.trans (.of ((s1.trans S).trans y)) (Kp.trans kp (.of ((s8.trans s9).trans sa))),λd ob e n=>((s8.trans s9).trans sa) _ _ (hk d ob (((s1.trans S).trans y) _ _ e) n)} (aS.of ag) ?_ ?_ {(),by change fW ns m=fW ns (fW ns m).length;rw[al]} λ_=>()
    ·show .trial {sK _ _,cS,by rw[al];show c1,by rw[al];show bb,bc,aw,by change r.hgt<=6;omega,bQ} (Bt Z.pn ax) (aS.of (((s8.trans s9).trans sa) _ _ cc)) ((X.kp (.of s9)).kp (.of sa)) (by change r.cnt<=30;omega) ho (λw hw=>CG ((dk ():∀w∈LX,HE w=true) w hw)) (by decide) (aS.of (sa _ _ as)) (λz hz=>Nc.mp (Nk (p.subset hz))) dc () () () ax
    ·have:=b9.same ((s8.trans s9).trans sa);rw[show sN M (.trial {dw M.trs.length (cV ns 2 3),hm,fW ns m,r,I,false,false,[]})=iG M++[(dw M.trs.length (cV ns 2 3),m)]by change iG M++[(_,(fW ns m).length)]=_;rw[al]];show this
end
inductive C7(K:OF)(vs:List V)(H:Hp)(Q:VK)(_E:XK):Prop|mk(sc:Addr)(ns:OQ)(M:bq)(A:wu)(c:Nat)(k n:Int)(_:vs=[.ref sc,.ref A.pl,.int k,.int n])(_:uN K H sc ns M A c)(_:(0<=k/\k<=1000))(_:0<M.trs.length)(_:ix K ns M A H Q)
def uN.tri(h:uN K H l ns M A c)(h1:H A.T=some (.lst e))(h2:Paired (CD K H) e (iG M))(n:Int)(h0:0<M.trs.length):∃(t:du)(b:Addr),t∈M.trs/\vg e (n%(e.length:Int))=some (.ref b)/\aS K H b [.str t.nm,.int t.arms.length]:=by
 have d:=Paired.length h2;rw[show(iG M).length=M.trs.length from b_ _]at d;have b:=bI n (show(0:Int)<(e.length:Int)by lia);have f:(n%(e.length:Int)).toNat<M.trs.length:=by lia
 obtain⟨v,g,i,rfl,j⟩:=oq h2 (n%(e.length:Int)).toNat _ (by unfold iG;rw[ig,il f];rfl);show{_,i,Nf f,?_,j};have:=aj g;rw[show(((n%(e.length:Int)).toNat:Nat):Int)=n%(e.length:Int)by lia]at this;show this
section
def BV(T:Txt K mg a):aT P w K mg base d0 3 a.qP.x a.qP.d ["_law_script","_law_plan_here","_law_k","_law_number"] (C7 K):=by
 show T.qP.ok mT λad A outer s H vs Q E hr h=>?_
 ·obtain⟨sc,ns,M,A,c,k,n,rfl,r,⟨k0,k1⟩,h0,q⟩:=h;show{_,(ah (bn 4 mT.nd (gG K (gG K (Y 1) af) (ay aU (Y 3) (aA (aI K ()) (by rfl) T.bE L2.aJ (O (gG K (Y 1) af) ae))))) (ah (tR (i:=5) mT.nd () (.inr ()) (ay bP (ay bp (gG K (Y 1) af) af) af)) (ah (aK (aC aQ (ay aU (ay bp (Y 3) af) af) af (aE _)) (ah (bn 6 mT.nd (dB (fq K ()) (by rfl) T.d9 L2.bZ (O (uu mK ["_law_j"] [] [7] (am py) (bW 7) (dA () T.eV (O (cA K (Y 4) af) ae)) (λcl C s₀ H₀ ex=>{(lF mK ["_law_j"] 7),bR,(ay bP af (ay aU (pc T.eB (cN T) hr (O (Y 0) (O (Y 2) (O (ay bP af (Y 7)) ae)))) af))})) ae))) (ai (az (aO (O av (O (cA K (Y 4) af) (O (ay aU (pc T.eB (cN T) hr (O (Y 0) (O (Y 2) (O af ae)))) (ay bP (gG K (Y 1) af) af)) (O (Y 6) ae)))))))) aD) (ai (az (aO (O av (O (cA K (Y 4) af) (O (dB (fq K ()) (by rfl) T.d9 L2.bZ (O (uu mK ["_law_j"] [] [7] (am py) (bW 7) (dA () T.eV (O (cA K (Y 4) af) ae)) (λcl C s₀ H₀ ex=>{(lF mK ["_law_j"] 7),bR,(ay aU (pc T.eB (cN T) hr (O (Y 0) (O (Y 2) (O (ay bP af (Y 7)) ae)))) (Y 5))})) ae)) ae))))))))),?_}
  have J:=r.pl;have hp:=r.pn.pr.le;have al:=qj;obtain⟨us,L,Z⟩:=J.T;have aa:=Paired.length Z;rw[show(iG M).length=M.trs.length from b_ _]at aa;obtain⟨t,b,B,ac,hb⟩:=r.tri L Z n h0;have a1:=(r.ok.tr t B).a1;have a4:=(r.ok.tr t B).a4;show iK λu1 R=>?_;show U () (rX (aW.of J.pl) (aj (k:=3) ()) (U () (U () (rX (aW.of J.pl) (aj (k:=3) ()) {_,us.length,(),.inl {_,aW.of L,()},_,U () {(),by change(0:Int)<(us.length:Int);lia,A.T,_,_,U () {(),aW.of L,ac,au (nR ?_)}}}))));subst R;show iK λu1 R=>?_;show U () (rX (aW.of J.pl) (aj (k:=0) ()) (r2 {{by decide,by decide},_,U () {(),au (nR ?_)}}));subst R;show qE ?_ (λN hN=>?_)
  rotate_left
  ·walk_at "a"
   show kC (λ_=>?_) (λ_=>hN);show U () (rX hb (aj (k:=1) ()) (U () {by show kl _,by lia,λD hD=>?_}));show ff (K:=K) (lo:=0) (n:=(t.arms.length:Int).toNat) (λj f H'=>ao H H'/\H' D=some (.lst f)/\∃(e:OQ),f=e.map V.int/\e.length=j/\∀x∈e,1<=x/\x<=9) {ak (ao.refl _) hD,ag,[],(),(),λx v=>nomatch v} ?_ ?_
   ·rintro j f S hj⟨F,l,e,rfl,m,g⟩;show au (iy (bh ?_));have b9:=bI (cV ns k (11+(0+(j:Int)))) (show(0:Int)<9 by decide);show U () (U () (U () (r2 {sc,ns,k,11+(0+(j:Int)),(),F.seq r.sq,r.len,{by omega,by lia},{by show kl _,by lia},_,U () {(),(show(0:Int)<9 by decide),_,U () {(),?_}}})));show{l,by rw[b_,ji];lia,lf hj {bu F hD,ag,e++[1+cV ns k (11+(0+(j:Int)))%9],by rw[ir];rfl,by rw[j1,m];rfl,λx v=>?_}};rcases List.mem_append.mp v with z|z
    ·show g x z
    ·rw[List.mem_singleton.mp z];lia
   ·rintro f S⟨F,l,e,rfl,m,g⟩;show{D,U () (.inl {aW.of l,λG W=>au ?_})};have y:=ak (o:=.tup (e.map V.int)) F W;have u:aH S G (.tup (e.map V.int)) G=some (.tup (e.map V.int)):=ag;generalize aH S G (.tup (e.map V.int))=H3 at y u⊢;have bz:=bI (cV ns k 10) (show(0:Int)<(M.p:Int)+1 by show tx.mpr (rd _));show U () (rX (ao.tseq y hb) (aj (k:=0) ()) (U () (U () {sc,ns,k,10,(),y.seq r.sq,r.len,{by omega,by lia},{by decide,by decide},U () (rX (aW.of (y _ _ J.pl)) (aj (k:=0) ()) (r2 (r2 {by change(0:Int)<(M.p:Int)+1;show tx.mpr (rd _),U () {ls (),λdv I=>?_}})))})));have X:=ak (o:=.tup [.str "deal",.str t.nm,.int (cV ns k 10%((M.p:Int)+1)),.ref G]) (ao.refl H3) I;show q dv (.deal t _ e) _ _ (.of (y.trans X)) (aS.of ag) (.deal B {bz.1,by lia} (aS.of (X _ _ u)) (by show m) λx v=>{(g x v).1,by have:=(g x v).2;lia}) (J.same (y.trans X)) trivial λz=>absurd z (op h0)
  ·show U () (rX hb (aj (k:=0) ()) (U () (rX hb (aj (k:=1) ()) (U () {by show kl _,by lia,λD hD=>?_}))));show ff (K:=K) (lo:=0) (n:=(t.arms.length:Int).toNat) (λj f H'=>ao H H'/\H' D=some (.lst f)/\∃(e:OQ),f=e.map V.int/\e.length=j/\∀x∈e,0<=x) {ak (ao.refl _) hD,ag,[],(),(),λx v=>nomatch v} ?_ ?_
   ·rintro j f S hj⟨F,l,e,rfl,m,g⟩;show au (iy (bh ?_));have b9:=bI (cV ns k (11+(0+(j:Int)))) (show(0:Int)<(M.p:Int)/2+2 by show tx.mpr (rd _));show U () (U () (U () (r2 {sc,ns,k,11+(0+(j:Int)),(),F.seq r.sq,r.len,{by omega,by lia},{by show kl _,by lia},U () (r2 {(by change(0:Int)<(M.p:Int)/2+2;show tx.mpr (rd _)),?_})})));show{l,by rw[b_,ji];lia,lf hj {bu F hD,ag,e++[cV ns k (11+(0+(j:Int)))%((M.p:Int)/2+2)],by rw[ir];rfl,by rw[j1,m];rfl,λx v=>?_}};rcases List.mem_append.mp v with z|z
    ·show g x z
    ·rw[List.mem_singleton.mp z];show b9.1
   ·rintro f S⟨F,l,e,rfl,m,g⟩;show{D,U () (.inl {aW.of l,λG W=>{ls (),λdv I=>?_}})};have y:=ak (o:=.tup (e.map V.int)) F W;have u:aH S G (.tup (e.map V.int)) G=some (.tup (e.map V.int)):=ag;generalize aH S G (.tup (e.map V.int))=H3 at y u I⊢;have X:=ak (o:=.tup [.str "share",.str t.nm,.ref G]) (ao.refl H3) I;show q dv (.share t e) _ _ (.of (y.trans X)) (aS.of ag) (.share B (aS.of (X _ _ u)) (by show m) g) (J.same (y.trans X)) trivial λz=>absurd z (op h0)
end
def rp(F G:Prop)(hc:∀Q:Bool->Hp->Prop,(F->Q true H)->(G->Q false H)->c e H Q)(h1:F->∀N:St->Hp->Prop,t {D with nx:=N} e H)(h2:G->u D e H):rK (Bu c t xO) u D e H:=hc _ (λf=>bh (h1 f _)) λg=>bV (h2 g)
def yT{c:Prop}[Decidable c]{Q:Bool->Hp->Prop}{H:Hp}(h1:c->Q true H)(h2:¬c->Q false H):Q (decide c) H:=by
 by_cases e:c
 ·rw[m_ e];show h1 e
 ·rw[me e];show h2 e
def Mt{te:TE}{g:TG}{u:TS}{D:jl}{c:St}(h1:∀Q:VK,(∀b,Q (.bl b) H)->te c H Q)(h2:∀b,g (.bl b) c H (u D)):rK (wB te g) u D c H:=h1 _ h2
inductive F8(K:OF)(vs:List V)(H:Hp)(Q:VK)(_E:XK):Prop|mk(sc:Addr)(ns:OQ)(M:bq)(A:wu)(c:Nat)(k:Int)(_:vs=[.ref sc,.ref A.pl,.int k])(_:uN K H sc ns M A c)(_:(0<=k/\k<=1000))(_:ix K ns M A H Q)
section
def DX(T:Txt K mg a):aT P w K mg base d0 6 a.wz.x a.wz.d ["_law_script","_law_plan_here","_law_k"] (F8 K):=by
 show T.wz.ok ka λal A outer s H vs Q E G h=>?_
 ·obtain⟨S,ns,M,A,c,k,rfl,y,⟨k0,k1⟩,q0⟩:=h;show{_,(ah (bn 3 ka.nd (pc T.eB (cN T) G (O (Y 0) (O (Y 2) (O af ae))))) (ah (bn 4 ka.nd (ay bp (Y 3) af)) (ah (bn 5 ka.nd (pc T.mM (qu T) G (O (ay aU (Y 4) af) (O (pc T.eB (cN T) G (O (Y 0) (O af (O af ae)))) ae)))) (ah (aK (PW.pt (fb (aC aQ (aA (aI K ()) (by rfl) T.bE L2.aJ (O (gG K (Y 1) af) ae)) af (aE _)) (dP (PW.pt (jM (aC aQ (ay aU (Y 3) af) af (aE _)) (iH (aC yk (aA (aI K ()) (by rfl) T.bE L2.aJ (O (gG K (Y 1) af) ae)) (aA (qH ()) (by rfl) T.Ea L2.uC (O (ay bP (gG K (Y 1) af) af) (O af ae))) (aE _)))))))) (ai (az (pc T.gY (u7 T) G (O (Y 0) (O (Y 1) ae))))) aD) (ah (bn 6 ka.nd (cy (bL yk (Y 2) af (aE _)) (cU (bL yk (ay aU (Y 3) af) af (aE _))))) (ah (aK (PW.pt (fb (aC aQ (aA (aI K ()) (by rfl) T.bE L2.aJ (O (gG K (Y 1) af) ae)) af (aE _)) (dP (PW.pt (jM (aC yk (aA (aI K ()) (by rfl) T.bE L2.aJ (O (gG K (Y 1) af) ae)) af (aE _)) (iH (PW.pt (fb (aR K () (Y 6) (λ_=>())) (dP (aC aQ (ay aU (Y 3) af) af (aE _))))))))))) (ai (az (pc T.gX (u6 T) G (O (Y 0) (O (Y 1) (O (Y 4) ae)))))) aD) (ah (aK (aC yk (ay aU (Y 3) af) af (aE _)) (ai (az (pc T.qP (BV T) G (O (Y 0) (O (Y 1) (O (Y 2) (O (Y 4) ae))))))) aD) (ah (bn 7 ka.nd (cA K (gG K (gG K (Y 1) af) (ay aU (ay bp (Y 4) af) (aA (aI K ()) (by rfl) T.bE L2.aJ (O (gG K (Y 1) af) ae)))) af)) (ah (aK (aC aQ (ay aU (Y 3) af) af (aE _)) (ai (az (aO (O av (O (gG K (gG K (Y 1) af) (ay aU (Y 4) (aA (aI K ()) (by rfl) T.bE L2.aJ (O (gG K (Y 1) af) ae)))) (O (ay aU (ay bp (Y 4) af) (ay bP (ay bp (gG K (Y 1) af) af) af)) ae)))))) aD) (ah (aK (aC aQ (ay aU (Y 3) af) af (aE _)) (ai (az (aO (O (gG K (bf (O av (O av (O av ae)))) (ay aU (Y 4) af)) (O (Y 7) ae))))) aD) (ah (aK (aC aQ (ay aU (Y 3) af) af (aE _)) (ai (az (aO (O (gG K (bf (O av (O av (O av (O av ae))))) (ay aU (Y 4) af)) (O (Y 7) ae))))) aD) (ah (aK (aC aQ (ay aU (Y 3) af) af (aE _)) (ai (az (aO (O av (O (Y 5) (O (Y 7) ae)))))) aD) (ai (az (aO (O av (O (Y 5) (O (pc T.qR (BX T) G (O (ay bp (Y 4) af) ae)) ae)))))))))))))))))),?_}
  show iK λu1 n=>?_;show U () (U () {S,ns,k,5,(),y.sq,y.len,{by omega,by lia},{by decide,by decide},au (nR ?_)});subst n;show iK λu1 n=>?_;have x0:=(AX ns k 5).1;generalize cV ns k 5=x at x0⊢;show U () (r2 {{by decide,by decide},au (nR ?_)});subst n;show iK λu1 n=>?_;show U () (r2 {(show(0:Int)<7 by decide),U () {S,ns,4,6,(),y.sq,y.len,{by decide,by decide},{by decide,by decide},x/16%7,cV ns 4 6,(),λg H1 s1 hg=>au (nR ?_)}});subst n;have R:=y.same s1;have q:=q0.same s1;clear y q0 s1;have i:=R.pl;have hp:=R.pn.pr.le;obtain⟨us,D,W⟩:=i.T;have aa:=Paired.length W;rw[show(iG M).length=M.trs.length from b_ _]at aa;have X:((gc M).map V.str).length=M.las.length:=by rw[b_];show b_ _
  show rp (M.las.length<4/\M.las.length<M.p+1) (0<M.las.length) (λQ r u=>?_) (λf N=>?_) (λh0=>?_)
  ·show U () (rX (aW.of i.pl) (aj (k:=2) ()) {_,M.las.length,(),.inl {_,aW.of i.L,X.symm},(),U () (kC (λe=>r {by lia,by lia}) (λe=>?_))});show U () (r2 {(show(0:Int)<16 by decide),(),U () (kC (λ_=>?_) (λ_=>u (by lia)))});show U () (rX (aW.of i.pl) (aj (k:=2) ()) {_,M.las.length,(),.inl {_,aW.of i.L,X.symm},U () (rX (aW.of i.pl) (aj (k:=0) ()) (r2 {(M.p:Int)+1,4,(),r2 (U () (yT (λf=>r ?_) (λ_=>u (by lia))))}))})
   split at f<;>lia
  ·show U () (U () {S,ns,M,A,c,(),R,f.1,f.2,q})
  show Mt (λQ h=>?_) (λeb=>au ?_)
  ·show U () (r2 (U () (lD (λ_=>?_) (λ_=>h _))));show U () (r2 {(show(0:Int)<16 by decide),_,U () {(),h _}})
  show rp (M.trs.length<10) (0<M.trs.length) (λQ r u=>?_) (λf N=>?_) (λF=>?_)
  ·show U () (rX (aW.of i.pl) (aj (k:=3) ()) {_,us.length,(),.inl {_,aW.of D,()},(),U () (kC (λe=>r (by lia)) (λe=>?_))});have g0:0<M.trs.length:=by lia
   show U () (rX (aW.of i.pl) (aj (k:=3) ()) {_,us.length,(),.inl {_,aW.of D,()},_,U () {(),U () (lD (λe=>?_) (λ_=>u g0))}});have f:=r (by lia);show U () {eb,(),sk (λ_=>f) (λ_=>?_)};show U () (r2 {(show(0:Int)<16 by decide),(),U () (yT (λ_=>f) (λ_=>u g0))})
  ·show U () (U () (U () {S,ns,M,A,c,x/16,(),R,f,h0,q}))
  show rp True True (λQ r u=>?_) (λ_ N=>?_) (λ_=>?_)
  ·show U () (r2 {(show(0:Int)<16 by decide),_,U () {(),U () (yT (λ_=>r trivial) (λ_=>u trivial))}})
  ·show U () (U () (U () (U () {S,ns,M,A,c,k,x/16,(),R,(k0,k1,),F,q})))
  obtain⟨t,b,B,ac,hb⟩:=R.tri D W (x/16/7) F;show iK λu1 n=>?_;show U () (rX (aW.of i.pl) (aj (k:=3) ()) (U () (r2 {{by decide,by decide},U () (rX (aW.of i.pl) (aj (k:=3) ()) {_,us.length,(),.inl {_,aW.of D,()},_,U () {(),by change(0:Int)<(us.length:Int);lia,A.T,_,_,U () {(),aW.of D,ac,rX hb (aj (k:=0) ()) (au (nR ?_))}}})})));subst n;show rp True True (λQ r u=>?_) (λ_ N=>?_) (λ_=>?_)
  ·show U () (r2 {(show(0:Int)<16 by decide),(),U () (yT (λ_=>r trivial) (λ_=>u trivial))})
  ·have an:(gc M).length=M.las.length:=b_ _;have bl:=bI (x/16) (show(0:Int)<((gc M).length:Int)by lia);have bz:=bI (x/16/4) (show(0:Int)<(M.p:Int)/3+2 by show tx.mpr (rd _));obtain⟨nm,ad,Z⟩:=ip bl.1 bl.2;obtain⟨l,hl,rfl⟩:=k_.mp ad;show U () (rX (aW.of i.pl) (aj (k:=2) ()) (U () (U () (rX (aW.of i.pl) (aj (k:=2) ()) {_,(gc M).length,(),.inl {_,aW.of i.L,by rw[b_]},_,U () {(),by change(0:Int)<((gc M).length:Int);lia,A.L,_,_,U () {(),aW.of i.L,Z,?_}}}))));show U () (r2 {{by decide,by decide},U () (rX (aW.of i.pl) (aj (k:=0) ()) (r2 {{by decide,by decide},_,U () {(),r2 {by change(0:Int)<(M.p:Int)/3+2;show tx.mpr (rd _),ls (),λC m=>?_}}}))});have j:=ak (o:=.tup [.str "hold",.str l.nm,.int (x/16/4%((M.p:Int)/3+2))]) (ao.refl H1) m;show q C (.hold l _) _ _ (.of j) (aS.of ag) (.hold hl bz.1) (i.same j) trivial λz=>absurd z (op F)
  show rp True True (λQ r u=>?_) (λ_ N=>?_) (λ_=>?_)
  ·show U () (r2 {(show(0:Int)<16 by decide),(),U () (yT (λ_=>r trivial) (λ_=>u trivial))})
  ·show{ls (),λl1 I=>?_};show fM I λH2 v J=>?_;have bm:=bI (x/16) (show(0:Int)<3 by decide);obtain⟨z,hz,Z⟩:=ip (zs:=["pause","go","go"]) bm.1 bm.2;show U () (r2 {(show(0:Int)<3 by decide),l1,_,_,U () {(),aW.of J,Z,U () {ls (),λC m=>?_}}});have j:=ak (o:=.tup [.str z,.str t.nm]) (ao.refl H2) m;simp only[so,o_,ML]at hz;rcases hz with rfl|rfl|rfl
   ·show q C (.pause t true) _ _ (.of (v.trans j)) (aS.of ag) (.pause B) (i.same (v.trans j)) trivial λz=>absurd z (op F)
   all_goals show q C (.pause t false) _ _ (.of (v.trans j)) (aS.of ag) (.go B) (i.same (v.trans j)) trivial λz=>absurd z (op F)
  show rp True True (λQ r u=>?_) (λ_ N=>?_) (λ_=>?_)
  ·show U () (r2 {(show(0:Int)<16 by decide),(),U () (yT (λ_=>r trivial) (λ_=>u trivial))})
  ·show{ls (),λl1 I=>?_};show fM I λH2 v J=>?_;have bm:=bI (x/16) (show(0:Int)<4 by decide);obtain⟨z,hz,Z⟩:=ip (zs:=["close","pause","go","go"]) bm.1 bm.2;show U () (r2 {(show(0:Int)<4 by decide),l1,_,_,U () {(),aW.of J,Z,U () {ls (),λC m=>?_}}});have j:=ak (o:=.tup [.str z,.str t.nm]) (ao.refl H2) m;simp only[so,o_,ML]at hz;rcases hz with rfl|rfl|rfl|rfl
   ·show q C (.close t) _ _ (.of (v.trans j)) (aS.of ag) (.close B) (i.same (v.trans j)) trivial λz=>absurd z (op F)
   ·show q C (.pause t true) _ _ (.of (v.trans j)) (aS.of ag) (.pause B) (i.same (v.trans j)) trivial λz=>absurd z (op F)
   all_goals show q C (.pause t false) _ _ (.of (v.trans j)) (aS.of ag) (.go B) (i.same (v.trans j)) trivial λz=>absurd z (op F)
  show rp True True (λQ r u=>?_) (λ_ N=>?_) (λ_=>?_)
  ·show U () (r2 {(show(0:Int)<16 by decide),(),U () (yT (λ_=>r trivial) (λ_=>u trivial))})
  ·show U () (U () {ls (),λC m=>?_});have j:=ak (o:=.tup [.str "bar",.str g,.str t.nm]) (ao.refl H1) m;show q C (.bar g t) _ _ (.of j) (aS.of ag) (.bar hg B) (i.same j) trivial λz=>absurd z (op F)
  show U () (U () (r2 {{by decide,by decide},x/16/7,(),λmt ms H2 v hm h3 h4 h5=>{ls (),λC m=>?_}}));have j:=ak (o:=.tup [.str "visit",.str g,.ref mt]) (ao.refl H2) m;show q C (.visit g _) _ _ (.of (v.trans j)) (aS.of ag) (.visit hg (hm.kp (.of j)) h3 h4 h5) (i.same (v.trans j)) trivial λz=>absurd z (op F)
end
def XE(K:OF)(a:f8)(H:Hp)(E:XK):Prop:=∀C H',lB K C a.cS->ao H H'->E (.ref C) none H'
def XE.same{E:XK}(h:XE K a H E)(s:ao H H'):XE K a H' E:=λC b u c=>h C b u (s.trans c)
inductive F5(K:OF)(a:f8)(vs:List V)(H:Hp)(Q:VK)(E:XK):Prop|mk(v:V)(_:vs=[v])(_:((rH K H v/\XE K a H E)\/∃(d:Addr)(k:Str)(xs:List V)(n:Int),v=.ref d/\aS K H d (.str k::xs)/\(∃tk,PySem.W.nsIn K a.fH k=some (some (.int n tk)))/\(n=(xs.length:Int)+1->Q .non H)/\(n≠(xs.length:Int)+1->XE K a H E)))
inductive C5(K:OF)(a:f8)(vs:List V)(H:Hp)(Q:VK)(E:XK):Prop|mk(kvs:List (bK×V))(x:Str)(d:Addr)(_:vs=[.str x,.ref d])(_:Wd x)(_:H d=some (.dK kvs))(_:(aX kvs (.inr x)=none->∀H',ao H H'->Q .non H'))(_:((aX kvs (.inr x)).isSome=true->XE K a H E))
inductive C6(K:OF)(a:f8)(vs:List V)(H:Hp)(Q:VK)(E:XK):Prop|mk(kvs:List (bK×V))(x:Str)(d:Addr)(_:vs=[.str x,.ref d])(_:Wd x)(_:H d=some (.dK kvs))(_:((aX kvs (.inr x)).isSome=true->∀H',ao H H'->Q .non H'))(_:(aX kvs (.inr x)=none->XE K a H E))
inductive Gf(K:OF)(a:f8)(vs:List V)(H:Hp)(Q:VK)(E:XK):Prop|mk(p:Addr)(l:OL)(_:vs=[.ref p])(_:aS K H p (l.map V.str))(_:(∀w∈l,Wd w))(_:1<=l.length)(_:l.length<=4)(_:(l.Nodup->∀H',ao H H'->Q .non H'))(_:(¬l.Nodup->XE K a H E))
inductive IM(vs:List V)(H:Hp)(Q:VK)(_E:XK):Prop|mk(x:_)(_:vs=[.str x])(_:x.length<=60)(_:∀H',ao H H'->Q (.bl (pF gH 24 x)) H')
inductive BG(K:OF)(a:f8)(vs:List V)(H:Hp)(Q:VK)(E:XK):Prop|mk(x:_)(_:vs=[.str x])(_:x.length<=60)(_:(pF gH 24 x=true->∀H',ao H H'->Q .non H'))(_:(pF gH 24 x=false->XE K a H E))
def Bh(K:OF)(H:Hp)(v:V):Prop:=rH K H v\/∃l:List (Str×Int),lE K H l v/\(∀m∈l,Wd m.1/\-cI<=m.2/\m.2<=cI)/\¬(l.map Prod.fst).Nodup/\l.length<=8
def Bn{v:V}{u:Value}(s:ao H H')(ty:kJ K H v u):kJ K H' v u:=by cases ty with|non=>show .non|bl x=>show .bl x|int i=>show .int i|str x=>show .str x|flt x=>show .flt x|lst e=>show .lst (s _ _ e)|frz e=>show .frz (s _ _ e)|tup e=>show .tup (s _ _ e)|dK e=>show .dK (s _ _ e)|dT e=>show .dT (s _ _ e)|ins e h1 h2 h3 h4 b=>show .ins (s _ _ e) h1 h2 h3 h4 b
def rH.same{v:V}(s:ao H H')(h:rH K H v):rH K H' v:=h.imp λ_ q=>{Bn s q.1,q.2}
theorem Bh.same{v:V}(s:ao H H')(h:Bh K H v):Bh K H' v:=h.imp (·.same s) λq=>q.imp λ_ q=>{q.1.kp (.of s),q.2}
inductive BF(K:OF)(a:f8)(vs:List V)(H:Hp)(Q:VK)(E:XK):Prop|mk(v:V)(_:vs=[v])(_:((rH K H v/\XE K a H E)\/∃l:List (Str×Int),lE K H l v/\(∀m∈l,Wd m.1/\-cI<=m.2/\m.2<=cI)/\l.length<=8/\((l.map Prod.fst).Nodup->∀H',ao H H'->Q .non H')/\(¬(l.map Prod.fst).Nodup->XE K a H E)))
inductive Dj(vs:List V)(H:Hp)(Q:VK)(_E:XK):Prop|mk(z:Int)(_:vs=[.int z])(_:Q (.bl (decide (0<=z))) H)
inductive BH(K:OF)(a:f8)(vs:List V)(H:Hp)(Q:VK)(E:XK):Prop|mk(z:Int)(_:vs=[.int z])(_:(0<=z->Q .non H))(_:(z<0->XE K a H E))
inductive C1(vs:List V)(H:Hp)(Q:VK)(_E:XK):Prop|mk(z:Int)(_:vs=[.int z])(_:0<=z)(_:Q (.bl (decide (z<=1000))) H)
inductive Dq(K:OF)(a:f8)(vs:List V)(H:Hp)(Q:VK)(E:XK):Prop|mk(x y:V)(z:Int)(_:vs=[.int z,x,y])(_:0<=z)(_:(z<=1000->∃(p:Addr)(l:OQ),x=.ref p/\y=.int (l.length:Nat)/\aS K H p (l.map V.int)/\(∀i∈l,1<=i/\i<=cI)/\l.length<=100/\∀H',ao H H'->Q .non H'))(_:(1000<z->XE K a H E))
inductive zq(K:OF)(a:f8)(vs:List V)(H:Hp)(Q:VK)(E:XK):Prop|mk(p:Addr)(n:Nat)(_:vs=[.ref p,.int n])(_:((∃us,aS K H p us/\us.length≠n/\us.length<=100/\XE K a H E)\/∃l:List Int,n=l.length/\aS K H p (l.map V.int)/\(∀i∈l,0<=i)/\l.length<=100/\∀H',ao H H'->Q .non H'))
def Js{c A B:Prop}[Decidable c](h1:c->B)(h2:¬c->A):if(!decide c)=true then A else B:=by
 by_cases e:c
 ·rw[m_ e];show bV (h1 e)
 ·rw[me e];show bh (h2 e)
section
def ud(T:Txt K mg a)(f:w.params=a.pm):aT P w K mg base (oN P w) 1 a.fi.x a.fi.d ["deed"] (F5 K a):=by
 show T.fi.okE uW λg A outer s H m Q E o h=>?_
 ·obtain⟨v,rfl,h⟩:=h;show{_,(ah (aK (PW.pt (fb (cx (aR K () (aA (ft K ()) (by rfl) T.bU L2.bo (O (Y 0) (O (lq () T.d9 L2.bZ) ae))) (λ_=>()))) (dP (aC aQ (aA (aI K ()) (by rfl) T.bE L2.aJ (O (Y 0) ae)) af (aE _))))) (ai (eI T.vY () T.yF () eF (O av ae))) aD) (ai (aK (PW.pt (fb (cx (aR K () (aA (ni K ()) (by rfl) T.bU L2.bo (O (cA K (Y 0) af) (O (lq () T.HS L2.zb) ae))) (λ_=>()))) (dP (aC HQ (GB K () (Mj f T.zU) () T.B7 (cA K (Y 0) af) {(),(),(),()}) (aA (aI K ()) (by rfl) T.bE L2.aJ (O (Y 0) ae)) (aE _))))) (ai (eI T.vY () T.yF () eF (O av ae))) aD))),?_}
  rcases h with⟨⟨p,ty,i⟩,q⟩|⟨d,k,c,n,rfl,b,⟨tk,j⟩,q,l⟩
  ·show U () {_,"tuple",_,false,(),.inl ty,i,false,(),bh (bh {ls (),q _ _ T.ie (ao.refl H)})}
  show U () {_,"tuple",_,true,(),.inr {d,U () {b,()}},fN (dk ()),true,(),bV ?_};show U () {_,U () {.inr {_,b,()},(),U () (kC (λh=>absurd h (by rw[oi];lia)) (λ_=>?_))}};show U () (rX b (aj (k:=0) ()) ?_);show{_,"str",_,true,(),.str k,fN (dk ()),true,(),bV ?_};show U () (rX b (aj (k:=0) ()) {k,U () {j,.inr {_,.int n,(),{tk,()},?_}}});show U () {_,U () {.inr {_,b,()},(),U () ?_}}
  by_cases e:n=(c.length:Int)+1
  ·rw[m_ (show V.int n=V.int (((V.str k::c).length:Nat):Int)by rw[e];simp)];show bV (q e)
  ·rw[me (show¬V.int n=V.int (((V.str k::c).length:Nat):Int)fromλz=>e (by have:=V.int.inj z;simpa using this))];show bh {ls (),l e _ _ T.ie (ao.refl H)}
def nO(T:Txt K mg a):aT P w K mg base (oN P w) 4 a.dR.x a.dR.d ["thing","names"] (C5 K a):=by
 show T.dR.okE wK λg A outer s H l Q E e h=>?_
 ·obtain⟨b,x,d,rfl,h1,h2,q,i⟩:=h;show{_,(ah (aY (pc T.fg (jP T) e (O (Y 0) ae))) (ai (aK (i7 (ou (bv e) (Y 0) (Y 1)) ()) (ai (eI T.EZ () T.GV () eF (O av ae))) aD))),?_}
  show U () {x,(),h1,λj c=>?_};show U () (U () (rG (aX b (.inr x)) (dq.k (k:=.inr x) (c _ _ h2)) (U () ?_)));cases f:aX b (.inr x)with|none=>show bV (q f j c)|some v=>show bh {ls (),i (by rw[f];rfl) _ _ T.nz c}
def d8(T:Txt K mg a):aT P w K mg base (oN P w) 4 a.aM.x a.aM.d ["thing","names"] (C6 K a):=by
 show T.aM.okE ju λg A outer s H l Q E e h=>?_
 ·obtain⟨b,x,d,rfl,h1,h2,q,i⟩:=h;show{_,(ah (aY (pc T.fg (jP T) e (O (Y 0) ae))) (ai (aK (i7 (mV (bv e) (Y 0) (Y 1)) ()) (ai (eI T.Ae () T.B5 () eF (O av ae))) aD))),?_}
  show U () {x,(),h1,λj c=>?_};show U () (U () (rG (aX b (.inr x)) (dq.k (k:=.inr x) (c _ _ h2)) (U () ?_)));cases f:aX b (.inr x)with|none=>show bh {ls (),i f _ _ T.lC c}|some v=>show bV (q (by rw[f];rfl) j c)
def uf(T:Txt K mg a):aT P w K mg base (oN P w) 4 a.fk.x a.fk.d ["thing"] (Gf K a):=by
 show T.fk.okE uX λc A outer s H k Q E f h=>?_
 ·obtain⟨p,l,rfl,h1,h2,h4,g,q,i⟩:=h;show{_,(ai (aK (cx (aR K () (pc T.kI (yu T) f (O (Y 0) ae)) (λ_=>()))) (ai (eI T.Cm () T.Ev () eF (O av ae))) aD)),?_};show U () {p,l,(),h1,h2,h4,g,λj b=>(U () (Js (λe=>q e j b) (λe=>{ls (),i e _ _ T.lK b})))}
def wQ(T:Txt K mg a):aT P w K mg base d0 2 a.fU.x a.fU.d ["thing"] IM:=by
 show T.fU.ok qV λb A outer s H e Q E c h=>?_
 ·obtain⟨x,rfl,h1,q⟩:=h;show{_,(ai (az (pc T.fe (jO T) c (O (Y 0) (O (ck T.jV ()) (O (ck T.lA ()) ae)))))),?_};show U () {.str x,_,24,(),.inl {x,(),h1,q}}
def lr(T:Txt K mg a):aT P w K mg base (oN P w) 3 a.bF.x a.bF.d ["thing"] (BG K a):=by
 show T.bF.okE lT λe A outer s H j Q E f h=>?_
 ·obtain⟨x,rfl,h1,q,g⟩:=h;show{_,(ai (aK (cx (aR K () (pc T.fU (wQ T) f (O (Y 0) ae)) (λ_=>()))) (ai (eI T.Ck () T.Et () eF (O av ae))) aD)),?_};show U () {x,(),h1,λi b=>(U () ?_)};cases c:pF gH 24 x with|true=>show bV (q c i b)|false=>show bh {ls (),g c _ _ T.lI b}
def rT(T:Txt K mg a):aT P w K mg base (oN P w) 5 a.dY.x a.dY.d ["thing"] (BF K a):=by
 show T.dY.okE tu λc A outer s H j Q E f h=>?_
 ·obtain⟨v,rfl,h⟩:=h;show{_,(ai (aK (cx (aR K () (pc T.iR (wS T) f (O (Y 0) ae)) (λ_=>()))) (ai (eI T.Af () T.B6 () eF (O av ae))) aD)),?_};rcases h with⟨h,q⟩|⟨l,h1,h2,h4,q,g⟩
  ·show U () {v,(),.inl {h,U () (bh {ls (),q _ _ T.gM (ao.refl H)})}}
  ·show U () {v,(),.inr {l,h1,h2,h4,λi b=>(U () (Js (λe=>q e i b) (λe=>{ls (),g e _ _ T.gM b})))}}
def wR(T:Txt K mg a):aT P w K mg base d0 2 a.dQ.x a.dQ.d ["thing"] Dj:=by
 show T.dQ.ok qW λb A outer s H e Q E c h=>?_
 ·obtain⟨z,rfl,q⟩:=h;show{_,(ai (az (cy (pc T.fT (ii T) c (O (Y 0) ae)) (cU (bL AQ (Y 0) af (aE _)))))),?_};show U () {z,(),U () (bh ?_)}
  walk_at "a"
  show q
def rW(T:Txt K mg a):aT P w K mg base (oN P w) 3 a.dZ.x a.dZ.d ["thing"] (BH K a):=by
 show T.dZ.okE tz λb A outer s H g Q E c h=>?_
 ·obtain⟨z,rfl,q,f⟩:=h;show{_,(ai (aK (cx (aR K () (pc T.dQ (wR T) c (O (Y 0) ae)) (λ_=>()))) (ai (eI T.mC () T.oz () eF (O av ae))) aD)),?_};show U () {z,(),U () (Js q (λe=>{ls (),f (Int.not_le.mp e) _ _ T.d6 (ao.refl H)}))}
def wP(T:Txt K mg a):aT P w K mg base d0 3 a.kD.x a.kD.d ["thing"] C1:=by
 show T.kD.ok xY λb A outer s H e Q E c h=>?_
 ·obtain⟨z,rfl,h1,q⟩:=h;show{_,(ai (az (cy (pc T.dQ (jB T) c (O (Y 0) ae)) (cU (bL jA (Y 0) (ck T.xn ()) (aE _)))))),?_};show U () {z,(),h1,U () (bh ?_)}
  walk_at "a"
  show q
def pI(T:Txt K mg a):aT P w K mg base (oN P w) 4 a.cY.x a.cY.d ["total","weights","many"] (Dq K a):=by
 show T.cY.okE ql λc A outer s H j Q E b h=>?_
 ·obtain⟨x,y,z,rfl,h1,q,f⟩:=h;show{_,(ai (aK (PW.pt (fb (cx (aR K () (pc T.kD (wP T) b (O (Y 0) ae)) (λ_=>()))) (dP (cx (aR K () (pc T.gp (ug T) b (O (Y 1) (O (Y 2) ae))) (λ_=>())))))) (ai (eI T.mC () T.oz () eF (O av ae))) aD)),?_};show U () {z,(),h1,U () ?_}
  by_cases e:z<=1000
  ·obtain⟨p,l,rfl,rfl,h2,h3,h4,q⟩:=q e;rw[m_ e];show bV (U () (U () {p,l,(),h2,h3,h4,λg i=>(U () (bV (q g i)))}))
  ·rw[me e];show bh (bh {ls (),f (Int.not_le.mp e) _ _ T.d6 (ao.refl H)})
def qt(T:Txt K mg a):aT P w K mg base (oN P w) 4 a.dD.x a.dD.d ["thing","many"] (zq K a):=by
 show T.dD.okE rL λb A outer s H k Q E c h=>?_
 ·obtain⟨p,n,rfl,h⟩:=h;show{_,(ai (aK (cx (aR K () (pc T.gU (u4 T) c (O (Y 0) (O (Y 1) ae))) (λ_=>()))) (ai (eI T.mC () T.oz () eF (O av ae))) aD)),?_};rcases h with⟨f,g,h1,h2,q⟩|⟨l,e,h1,h2,h3,q⟩
  ·show U () (U () {p,n,(),.inl {f,g,h1,h2,U () (bh {ls (),q _ _ T.d6 (ao.refl H)})}})
  ·show U () (U () {p,n,(),.inr {l,e,h1,h2,h3,λi j=>(U () (bV (q i j)))}})
end
def Ms(J:St->Hp->Prop)(h1:∀c H,J c H->u D c H)(h2:∀(N:St->Hp->Prop)(R:VK)(B C:St->Hp->Prop),(∀c H,J c H->N c H)->t (N,R,B,C,) c H):rK t u D c H:=h2 (u D) D.rt D.bk D.ct h1
inductive uQ(K:OF)(H:Hp)(M:bq):V->Prop|form{v:V}(h:rH K H v):uQ K H M v|pause{b:Addr}(h:aS K H b [.str "pause"]):uQ K H M (.ref b)|go{b:Addr}{x y:V}(h:aS K H b [.str "go",x,y]):uQ K H M (.ref b)|layer{b:Addr}{l:cb}{x:V}(h:aS K H b [.str "layer",.str l.nm,x])(h1:l∈M.las):uQ K H M (.ref b)|trial{b:Addr}{t:du}{x y z u:V}(h:aS K H b [.str "trial",.str t.nm,x,y,z,u])(h1:t∈M.trs):uQ K H M (.ref b)|arms{b ar:Addr}{x y:Str}{l:cb}{z u:V}(h:aS K H b [.str "trial",.str x,.str l.nm,.ref ar,z,u])(h1:Wd x)(h2:l∈M.las)(h3:aS K H ar [.str y,.str y])(h4:Wd y):uQ K H M (.ref b)|share{b nv:Addr}{t:du}{us:List V}(h:aS K H b [.str "share",.str t.nm,.ref nv])(h1:t∈M.trs)(h2:aS K H nv us)(h3:us.length=t.arms.length+1):uQ K H M (.ref b)|deal{b:Addr}{t:du}{x:V}(h:aS K H b [.str "deal",.str t.nm,.int 1001,x])(h1:t∈M.trs):uQ K H M (.ref b)|hold{b:Addr}{l:cb}(h:aS K H b [.str "hold",.str l.nm,.int (-1)])(h1:l∈M.las):uQ K H M (.ref b)|bar{b:Addr}{g x:Str}(h:aS K H b [.str "bar",.str g,.str x])(h1:uP g)(h2:Wd x)(h3:x∉M.trs.map du.nm):uQ K H M (.ref b)|close{b:Addr}{x:Str}(h:aS K H b [.str "close",.str x])(h2:Wd x)(h3:x∉M.trs.map du.nm):uQ K H M (.ref b)|guest{b:Addr}{x:V}(h:aS K H b [.str "visit",.str "Ann",x]):uQ K H M (.ref b)|marks{b:Addr}{g:Str}{v:V}(h:aS K H b [.str "visit",.str g,v])(h1:uP g)(h2:Bh K H v):uQ K H M (.ref b)
inductive C0(P:OK)(w:World)(K:OF)(a:f8)(vs:List V)(H:Hp)(Q:VK)(E:XK):Prop|mk(d:Addr)(M:bq)(Z:ZS)(c:Nat)(x:Str)(xs:List V)(_:vs=[.ref d,.ref (Z.G .ln),.ref (Z.G .tn)])(_:bx P w K a H M Z)(_:j0 M c)(_:aS K H d (.str "trial"::.str x::xs))(_:Wd x)(_:(x∈M.trs.map du.nm\/∃l∈M.las,∃ar y z u,xs=[.str l.nm,.ref ar,z,u]/\aS K H ar [.str y,.str y]/\Wd y))(_:XE K a H E)
inductive F0(P:OK)(w:World)(K:OF)(a:f8)(vs:List V)(H:Hp)(Q:VK)(E:XK):Prop|mk(d:Addr)(M:bq)(Z:ZS)(c:Nat)(k x:Str)(xs:List V)(_:vs=[.ref d,.ref (Z.G .tn)])(_:bx P w K a H M Z)(_:j0 M c)(_:aS K H d (.str k::.str x::xs))(_:Wd x)(_:(x∉M.trs.map du.nm\/∃t∈M.trs,t.nm=x/\((k="share"/\∃nv us,xs=[.ref nv]/\aS K H nv us/\us.length=t.arms.length+1)\/(k="deal"/\∃y,xs=[.int 1001,y]))))(_:XE K a H E)
inductive F7(P:OK)(w:World)(K:OF)(a:f8)(vs:List V)(H:Hp)(Q:VK)(E:XK):Prop|mk(v:V)(M:bq)(Z:ZS)(c:Nat)(_:vs=[v,.int M.p,.ref (Z.G .ln),.ref (Z.G .tn)])(_:bx P w K a H M Z)(_:j0 M c)(_:uQ K H M v)(_:XE K a H E)
inductive KR(P:OK)(w:World)(K:OF)(a:f8)(vs:List V)(H:Hp)(Q:VK)(E:XK):Prop|mk(v:V)(M:bq)(Z:ZS)(c:Nat)(_:vs=[.ref (Z.G .hh),v])(_:dn P w K a H M Z c)(_:uQ K H M v)(_:XE K a H E)
section
def j0.ltf{M:bq}{c:Nat}(e:j0 M c){Z:ZS}{l:cb}(f:l∈M.las):(aX (jn (M.las.map cb.nm) λi=>V.ref (Z.G (.lo i))) (.inr l.nm)).isSome=true:=by obtain⟨j,b⟩:=iq.mp f;rw[e.lget (Z:=Z) b];rfl
def j0.ttf{M:bq}{c:Nat}(e:j0 M c){Z:ZS}{t:du}(f:t∈M.trs):(aX (jn (M.trs.map du.nm) λi=>V.ref (Z.G (.tr i))) (.inr t.nm)).isSome=true:=by obtain⟨j,b⟩:=iq.mp f;rw[e.tget (Z:=Z) b];rfl
def rS(T:Txt K mg a):aT P w K mg base (oN P w) 12 a.dX.x a.dX.d ["deed","layers","trials"] (λD H Q E=>C0 P w K a D H Q E\/Dk K D H Q E):=by
 show T.dX.f.okE tj (λD H Q E h=>?_) (λan A outer s H D Q E v h=>?_)
 ·rcases h with⟨d,M,Z,c,x,xs,rfl,_⟩|⟨d,ly,tr,ar,sh,ru,x,y,r,ws,l,ss,lk,tk,rfl,_⟩
  ·rfl
  ·rfl
 ·show{_,(ah (aY (aP ((nO T).mono (by decide)) v () T.dR.m T.dR.f.kp T.dR.b .nil bS (O (cA K (Y 0) af) (O (Y 2) ae)))) (ah (aY (aP ((d8 T).mono (by decide)) v () T.aM.m T.aM.f.kp T.aM.b .nil bS (O (cA K (Y 0) af) (O (Y 1) ae)))) (ah (aY (aP ((uf T).mono (by decide)) v () T.fk.m T.fk.f.kp T.fk.b .nil bS (O (cA K (Y 0) af) ae))) (ah (aY (pc T.gT (u3 T) v (O (cA K (Y 0) af) ae))) (ai (aY (pc T.gm (ua T) v (O (cA K (Y 0) af) (O (Y 2) ae))))))))),?_}
  rcases h with⟨d,M,Z,c,x,xs,rfl,hG,hM,i,F,h,q⟩|⟨d,ly,tr,ar,sh,ru,x,y,r,ws,l,ss,lk,tk,rfl,i,F,hy,I,B,C,J,L,h1,h2,h3,h4,N,R,S,V,W,X,aa,ac,ad,al,q⟩
  ·show U () (rX i (aj (k:=1) ()) (U () {_,x,Z.G .tn,(),F,hG.tris,λe H1 o=>?_,λ_=>q}));rcases h with h|⟨l,hl,ar,y,z,u,rfl,h3,h4⟩
   ·obtain⟨t,ht,rfl⟩:=k_.mp h;obtain⟨j,hj⟩:=iq.mp ht;rw[hM.tget (Z:=Z) hj]at e;cases e
   show U () (rX (ao.tseq o i) (aj (k:=2) ()) (U () {_,l.nm,Z.G .ln,(),(hM.la l hl).wd,o _ _ hG.lays,λ_ H2 s2=>?_,λ_=>q.same o}));have g:=o.trans s2;show{_,(),d,_,3,_,(),(),ao.tseq g i,aj (k:=3) (),ar,[y,y],(),ao.tseq g h3,λz hz=>by rcases so.mp hz with rfl|hz;show h4;rw[List.mem_singleton.mp hz];show h4,by simp,by simp,λe=>absurd e (by simp),λ_=>q.same g}
  ·show U () (rX i () (U () {tk,x,tr,(),F,B,λ_ H1 o=>?_,λe=>absurd e (by rw[C];decide)}));show U () (rX (ao.tseq o i) () (U () {lk,y,ly,(),hy,o _ _ I,λ_ H2 s2=>?_,λe=>absurd J (by rw[e];decide)}));have g:=o.trans s2;show U () (rX (ao.tseq g i) () {ar,l,(),ao.tseq g L,h1,h3,h4,λ_ H3 s3=>?_,λe=>absurd h2 e});have p:=g.trans s3;show U () (rX (ao.tseq p i) () {r,ru,ws,(),N.kp (.of p),R,S,V,W,X,λH4 s4=>?_});have n:=p.trans s4;show U () (rX (ao.tseq n i) () (U () {sh,tr,ss,tk,(),ao.tseq n aa,n _ _ B,ac,ad,al,λH5 s5=>q H5 (n.trans s5)}))
def ub(T:Txt K mg a):aT P w K mg base (oN P w) 5 a.fh.x a.fh.d ["deed","trials"] (λJ H Q E=>F0 P w K a J H Q E\/IF P w K a J H Q E):=by
 show T.fh.f.okE jI (λJ H Q E h=>?_) (λaa A outer s H J Q E L h=>?_)
 ·rcases h with⟨d,M,Z,c,k,x,S,rfl,_⟩|⟨d,M,Z,c,k,t,S,rfl,_⟩
  ·rfl
  ·rfl
 ·show{_,(ah (aY (aP ((d8 T).mono (by decide)) L () T.aM.m T.aM.f.kp T.aM.b .nil bS (O (cA K (Y 0) af) (O (Y 1) ae)))) (ah (bn 2 jI.nd (cF (bv L) (Y 1) (cA K (Y 0) af) (λ_ _=>()))) (ah (bn 3 jI.nd (aA (aI K ()) (by rfl) T.bE L2.aJ (O (aL K () (Y 2)) ae))) (ah (aK (aC aQ (cA K (Y 0) af) av (aE _)) (ai (aY (aP ((qt T).mono (by decide)) L () T.dD.m T.dD.f.kp T.dD.b .nil bS (O (cA K (Y 0) af) (O (Y 3) ae))))) (ai (aK (aC aQ (cA K (Y 0) af) av (aE _)) (ai (aY (aP ((pI T).mono (by decide)) L () T.cY.m T.cY.f.kp T.cY.b .nil bS (O (cA K (Y 0) af) (O (cA K (Y 0) af) (O (Y 3) ae)))))) aD))) (ai (aK (aR K () (aL K () (Y 2)) (λ_=>())) (ai (eI T.Cn () T.Ex () eF (O av ae))) aD)))))),?_}
  rcases h with⟨d,M,Z,c,k,x,S,rfl,v,B,u,hx,h,q⟩|⟨d,M,Z,c,k,t,S,rfl,u,v,B,C,hO,q,qe⟩
  ·show U () (rX u (aj (k:=1) ()) (U () {_,x,Z.G .tn,(),hx,v.tris,λe X n=>?_,λ_=>q}));rcases h with h|⟨t,C,rfl,h⟩
   ·rw[jd h]at e;cases e
   obtain⟨j,o⟩:=iq.mp C;have N:=B.tget (Z:=Z) o;have V:=(B.tr t C).a4;have i:=v.same n;have g:=ao.tseq n u;obtain⟨p,-,-⟩:=i.trs j t o;show U () (U () (rX g (aj (k:=1) ()) (rG (.ref (Z.G (.tr j))) (by rw[<-N];show dq.k (k:=.inr t.nm) i.tris) (au ?_))));show iN (i.trial o) T.bC T.fQ () () {_,t.arms.length,(),.inr {_,p,by simp},au ?_};rcases h with⟨rfl,D,us,rfl,h2,h3⟩|⟨rfl,y,rfl⟩
   ·show U () (rX g (aj (k:=0) ()) {(),U () (aZ ?_)});show U () (rX g (aj (k:=2) ()) (U () {D,t.arms.length,(),.inl {us,ao.tseq n h2,by omega,by omega,q.same n}}))
   ·show U () (rX g (aj (k:=0) ()) {(),U () (wn ?_)});show U () (rX g (aj (k:=0) ()) {(),U () (aZ ?_)});show U () (rX g (aj (k:=2) ()) (U () (rX g (aj (k:=3) ()) (U () {y,_,1001,(),by decide,λe=>absurd e (by decide),λ_=>q.same n}))))
  ·obtain⟨j,o⟩:=iq.mp C;have F:=B.tr t C;have N:=B.tget (Z:=Z) o;have V:=F.a4;show U () (rX u (aj (k:=1) ()) (U () {_,t.nm,Z.G .tn,(),F.wd,v.tris,λ_ X n=>?_,λe=>by rw[N]at e;cases e}));have i:=v.same n;have hI:=i.trial o;obtain⟨p,-,-⟩:=i.trs j t o;show U () (U () (rX (ao.tseq n u) (aj (k:=1) ()) (rG (.ref (Z.G (.tr j))) (by rw[<-N];show dq.k (k:=.inr t.nm) i.tris) (au ?_))));show iN hI T.bC T.fQ () () {_,t.arms.length,(),.inr {_,p,by simp},au (nR ?_)};have g:=ao.tseq n u;show Ms (λσ H'=>∃v3,ao X H'/\σ=[some (.ref d),some (.ref (Z.G .tn)),some (.ref (Z.G (.tr j))),v3]) ?A1 (λNn R' B' C' W=>?B1)
   case A1=>
    rintro σ R⟨v3,r,rfl⟩;show iN (r _ _ hI) T.bC T.iC () () {t.clo,(),?_};cases I:t.clo
    ·show bV (q I R (n.trans r))
    ·show bh {ls (),qe I R (n.trans r)}
   case B1=>show U () (rX g (aj (k:=0) ()) {(),U () ?_});cases hO with|@share D l h1 h2 h3=>show aZ {_,(),d,_,2,_,(),(),g,aj (k:=2) (),_,(),D,t.arms.length,(),.inr {l,h3.symm,ao.tseq n h1,h2,by omega,λR r=>W _ _ {_,r,()}}}|@deal z D l hz h1 h2 h3=>show eS (dk ()) ?_;show U () (rX g (aj (k:=0) ()) {(),U () (aZ ?_)});show U () (rX g (aj (k:=2) ()) (U () (rX g (aj (k:=3) ()) (U () {_,_,z,(),hz.1,λ_=>{D,l,(),by rw[h3],ao.tseq n h1,h2,by omega,λR r=>W _ _ {_,r,()}},λe=>absurd hz.2 (by omega)}))))|other h1 h2=>show eS h1 {_,(),d,_,0,_,(),(),g,aj (k:=0) (),(),_,(),eS h2 (W _ _ {_,ao.refl _,()})}
end
section
def ue(T:Txt K mg a)(X:w.params=a.pm):aT P w K mg base (oN P w) 13 a.fj.x a.fj.d ["deed","prime","layers","trials"] (λJ H Q E=>F7 P w K a J H Q E\/Ge P w K a J H Q E):=by
 show T.fj.f.okE nD (λJ H Q E h=>?_) (λaa A outer s H J Q E p h=>?_)
 ·rcases h with⟨v,M,Z,c,rfl,_⟩|⟨dv,M,Z,c,d,xs,rfl,_⟩
  ·rfl
  ·rfl
 ·show{_,(ah (aY (aP ((ud T X).mono (by decide)) p () T.fi.m T.fi.f.kp T.fi.b .nil bS (O (Y 0) ae))) (ah (bn 4 nD.nd (cA K (Y 0) af)) (ai (aK (aC aQ (Y 4) av (aE _)) (ah (aY (aP ((nO T).mono (by decide)) p () T.dR.m T.dR.f.kp T.dR.b .nil bS (O (cA K (Y 0) af) (O (Y 2) ae)))) (ai (aY (pc T.gk (t9 T) p (O (cA K (Y 0) af) (O (Y 1) (O (Y 2) ae))))))) (ai (aK (aC aQ (Y 4) av (aE _)) (ai (aY (aP ((rS T).mono (by decide)) p () T.dX.m T.dX.f.kp T.dX.b .nil bS (O (Y 0) (O (Y 2) (O (Y 3) ae)))))) (ai (aK (aC aQ (Y 4) av (aE _)) (ah (aY (aP ((d8 T).mono (by decide)) p () T.aM.m T.aM.f.kp T.aM.b .nil bS (O (cA K (Y 0) af) (O (Y 2) ae)))) (ai (aY (aP ((rW T).mono (by decide)) p () T.dZ.m T.dZ.f.kp T.dZ.b .nil bS (O (cA K (Y 0) af) ae))))) (ai (aK (aC aQ (Y 4) av (aE _)) (ah (aY (aP ((lr T).mono (by decide)) p () T.bF.m T.bF.f.kp T.bF.b .nil bS (O (cA K (Y 0) af) ae))) (ai (aY (aP ((d8 T).mono (by decide)) p () T.aM.m T.aM.f.kp T.aM.b .nil bS (O (cA K (Y 0) af) (O (Y 3) ae)))))) (ai (aK (aC aQ (Y 4) av (aE _)) (ah (aY (aP ((lr T).mono (by decide)) p () T.bF.m T.bF.f.kp T.bF.b .nil bS (O (cA K (Y 0) af) ae))) (ai (aY (aP ((rT T).mono (by decide)) p () T.dY.m T.dY.f.kp T.dY.b .nil bS (O (cA K (Y 0) af) ae))))) (ai (aY (aP ((ub T).mono (by decide)) p () T.fh.m T.fh.f.kp T.fh.b .nil bS (O (Y 0) (O (Y 3) ae))))))))))))))))),?_}
  rcases h with⟨v,M,Z,c,rfl,o,n,R,q⟩|⟨b,M,Z,c,d,xs,rfl,i,o,n,R,q,B⟩
  ·cases R with|form h=>show{_,(),v,(),.inl (h,q,)}|@pause b i=>show{_,(),.ref b,(),.inr {b,"pause",[],2,(),i,T.kz,λe=>absurd e (by decide),λ_=>q}}|@go b x y i=>show{_,(),.ref b,(),.inr {b,"go",[x,y],2,(),i,T.nW,λe=>absurd e (by simp),λ_=>q}}|@layer b l x i h1=>show U () {.ref b,(),.inr {b,"layer",_,3,(),i,T.kA,λ_=>?_,λe=>absurd () e}};show U () (rX i (aj (k:=0) ()) (au ?_));show U () {(),U () (aZ ?_)};show U () (rX i (aj (k:=1) ()) (U () {_,l.nm,Z.G .ln,(),(n.la l h1).wd,o.lays,λe=>absurd (n.ltf (Z:=Z) h1) (by rw[e];decide),λ_=>q}))|@trial b t x y z u i h1=>show U () {.ref b,(),.inr {b,"trial",_,6,(),i,T.gS,λ_=>?_,λe=>absurd () e}};show U () (rX i (aj (k:=0) ()) (au ?_));show U () {(),U () (wn ?_)};show U () {(),U () (aZ ?_)};show U () (U () (U () (.inl {b,M,Z,c,t.nm,_,(),o,n,i,(n.tr t h1).wd,.inl (k_.mpr {t,h1,()}),q})))|@arms b ar x y l z u i h1 h2 h3 h4=>show U () {.ref b,(),.inr {b,"trial",_,6,(),i,T.gS,λ_=>?_,λe=>absurd () e}};show U () (rX i (aj (k:=0) ()) (au ?_));show U () {(),U () (wn ?_)};show U () {(),U () (aZ ?_)};show U () (U () (U () (.inl {b,M,Z,c,x,_,(),o,n,i,h1,.inr {l,h2,ar,y,z,u,(),h3,h4},q})))|@share b S t us i h1 h2 h3=>show U () {.ref b,(),.inr {b,"share",_,3,(),i,T.ky,λ_=>?_,λe=>absurd () e}};show U () (rX i (aj (k:=0) ()) (au ?_));(iterate 5 show U () {(),U () (wn ?_)});show U () (U () (.inl {b,M,Z,c,"share",t.nm,_,(),o,n,i,(n.tr t h1).wd,.inr {t,h1,(),.inl {(),S,us,(),h2,h3}},q}))|@deal b t x i h1=>show U () {.ref b,(),.inr {b,"deal",_,4,(),i,T.lx,λ_=>?_,λe=>absurd () e}};show U () (rX i (aj (k:=0) ()) (au ?_));(iterate 5 show U () {(),U () (wn ?_)});show U () (U () (.inl {b,M,Z,c,"deal",t.nm,_,(),o,n,i,(n.tr t h1).wd,.inr {t,h1,(),.inr {(),x,()}},q}))|@close b x i h2 h3=>show U () {.ref b,(),.inr {b,"close",_,2,(),i,T.kB,λ_=>?_,λe=>absurd () e}};show U () (rX i (aj (k:=0) ()) (au ?_));(iterate 5 show U () {(),U () (wn ?_)});show U () (U () (.inl {b,M,Z,c,"close",x,_,(),o,n,i,h2,.inl h3,q}))|@hold b l i h1=>show U () {.ref b,(),.inr {b,"hold",_,3,(),i,T.lw,λ_=>?_,λe=>absurd () e}};show U () (rX i (aj (k:=0) ()) (au ?_));(iterate 2 show U () {(),U () (wn ?_)});show U () {(),U () (aZ ?_)};show U () (rX i (aj (k:=1) ()) (U () {_,l.nm,Z.G .ln,(),(n.la l h1).wd,o.lays,λ_ r j=>?_,λ_=>q}));show U () (rX (ao.tseq j i) (aj (k:=2) ()) {-1,(),λe=>absurd e (by decide),λ_=>q.same j})|@bar b g x i h1 h2 h3=>show U () {.ref b,(),.inr {b,"bar",_,3,(),i,T.mx,λ_=>?_,λe=>absurd () e}};show U () (rX i (aj (k:=0) ()) (au ?_));(iterate 3 show U () {(),U () (wn ?_)});show U () {(),U () (aZ ?_)};show U () (rX i (aj (k:=1) ()) {g,(),by have:=h1.hi;omega,λ_ r j=>?_,λ_=>q});show U () (rX (ao.tseq j i) (aj (k:=2) ()) (U () {_,x,Z.G .tn,(),h2,j _ _ o.tris,λe=>absurd e (by rw[jd h3];decide),λ_=>q.same j}))|@guest b x i=>show U () {.ref b,(),.inr {b,"visit",_,3,(),i,T.gR,λ_=>?_,λe=>absurd () e}};show U () (rX i (aj (k:=0) ()) (au ?_));(iterate 4 show U () {(),U () (wn ?_)});show U () {(),U () (aZ ?_)};show U () (rX i (aj (k:=1) ()) {"Ann",(),dk (),λe=>absurd e (dk ()),λ_=>q})|@marks b g v i h1 h2=>
   show U () {.ref b,(),.inr {b,"visit",_,3,(),i,T.gR,λ_=>?_,λe=>absurd () e}};show U () (rX i (aj (k:=0) ()) (au ?_));(iterate 4 show U () {(),U () (wn ?_)});show U () {(),U () (aZ ?_)};show U () (rX i (aj (k:=1) ()) {g,(),by have:=h1.hi;omega,λ_ r j=>?_,λ_=>q});show U () (rX (ao.tseq j i) (aj (k:=2) ()) {v,(),?_});rcases h2.same j with h|⟨l,k1,k2,k3,k4⟩
   ·show .inl {h,q.same j}
   ·show .inr {l,k1,k2,k4,λe=>absurd e k3,λ_=>q.same j}
  ·cases R with|@layer nm sl h1 h2 h3 h4 L=>show U () {.ref b,(),.inr {b,"layer",_,3,(),i,T.kA,λ_=>?_,λe=>absurd () e}};show U () (rX i (aj (k:=0) ()) (au ?_));show U () {(),U () (aZ ?_)};show U () (rX i (aj (k:=1) ()) (U () {_,nm,Z.G .ln,(),h1,o.lays,λ_ r j=>?_,λe=>absurd e (by rw[jd h2];decide)}));show U () (rX (ao.tseq j i) (aj (k:=2) ()) (U () (U () {sl,M,Z,(),o.same j,by lia,h3.1,h3.2,h4,λC D=>q () C (j.trans D)})))|@trial x ar sh ra V h1 h2 h3 h4 L h6 h7 h8 h9 ha hb hc hd he hf=>show U () {.ref b,(),.inr {b,"trial",_,6,(),i,T.gS,λ_=>?_,λe=>absurd () e}};show U () (rX i (aj (k:=0) ()) (au ?_));show U () {(),U () (wn ?_)};show U () {(),U () (aZ ?_)};obtain⟨lh,F,I⟩:=k_.mp h1.hm;show U () (U () (U () (.inr {b,Z.G .ln,Z.G .tn,ar,sh,.ref ra,x.nm,x.home,x.rule,V,x.arms,x.shuts,_,_,(),i,h1.wd,by rw[<-I];show(n.la lh F).wd,o.lays,o.tris,jd h2,by rw[<-I];show n.ltf F,h3,h1.aw,h1.nd,h1.a1,h1.a4,h4,h1.hg,L,h6,h7,h8,h9,λy hy=>?_,hb,h1.s8,q ()})));obtain⟨z,N,W⟩:=k_.mp (ha y hy);show{by rw[<-W];show(n.tr z N).wd,by rw[<-W];show n.ttf N}|@hold l z h1 h2=>show U () {.ref b,(),.inr {b,"hold",_,3,(),i,T.lw,λ_=>?_,λe=>absurd () e}};show U () (rX i (aj (k:=0) ()) (au ?_));(iterate 2 show U () {(),U () (wn ?_)});show U () {(),U () (aZ ?_)};show U () (rX i (aj (k:=1) ()) (U () {_,l.nm,Z.G .ln,(),(n.la l h1).wd,o.lays,λ_ r j=>?_,λe=>absurd (n.ltf (Z:=Z) h1) (by rw[e];decide)}));show U () (rX (ao.tseq j i) (aj (k:=2) ()) {z,(),λ_=>q () r j,λe=>absurd h2 (by omega)})|@bar g t h1 h2=>show U () {.ref b,(),.inr {b,"bar",_,3,(),i,T.mx,λ_=>?_,λe=>absurd () e}};show U () (rX i (aj (k:=0) ()) (au ?_));(iterate 3 show U () {(),U () (wn ?_)});show U () {(),U () (aZ ?_)};show U () (rX i (aj (k:=1) ()) {g,(),by have:=h1.hi;omega,λ_ r j=>?_,λe=>absurd h1.b (by rw[e];decide)});show U () (rX (ao.tseq j i) (aj (k:=2) ()) (U () {_,t.nm,Z.G .tn,(),(n.tr t h2).wd,j _ _ o.tris,λ_ C D=>q () C (j.trans D),λe=>absurd (n.ttf (Z:=Z) h2) (by rw[e];decide)}))|@visit g mv ms h1 h2 h3 h4 L=>show U () {.ref b,(),.inr {b,"visit",_,3,(),i,T.gR,λ_=>?_,λe=>absurd () e}};show U () (rX i (aj (k:=0) ()) (au ?_));(iterate 4 show U () {(),U () (wn ?_)});show U () {(),U () (aZ ?_)};show U () (rX i (aj (k:=1) ()) {g,(),by have:=h1.hi;omega,λ_ r j=>?_,λe=>absurd h1.b (by rw[e];decide)});show U () (rX (ao.tseq j i) (aj (k:=2) ()) {mv,(),.inr {ms,h2.kp (.of j),h3,L,λ_ C D=>q () C (j.trans D),λe=>absurd h4 e}})|@share t ns S h1 h2 h3 h4=>show U () {.ref b,(),.inr {b,"share",_,3,(),i,T.ky,λ_=>?_,λe=>absurd () e}};show U () (rX i (aj (k:=0) ()) (au ?_));(iterate 5 show U () {(),U () (wn ?_)});show U () (U () (.inr {b,M,Z,c,_,t,_,(),i,o,n,h1,.share h2 h4 h3,q,B}))|@deal t z V wv h1 N h2 h3 h4=>show U () {.ref b,(),.inr {b,"deal",_,4,(),i,T.lx,λ_=>?_,λe=>absurd () e}};show U () (rX i (aj (k:=0) ()) (au ?_));(iterate 5 show U () {(),U () (wn ?_)});show U () (U () (.inr {b,M,Z,c,_,t,_,(),i,o,n,h1,.deal N h2 h4 h3,q,B}))|@pause t h1=>show U () {.ref b,(),.inr {b,"pause",_,2,(),i,T.kz,λ_=>?_,λe=>absurd () e}};show U () (rX i (aj (k:=0) ()) (au ?_));(iterate 5 show U () {(),U () (wn ?_)});show U () (U () (.inr {b,M,Z,c,_,t,_,(),i,o,n,h1,.other (dk ()) (dk ()),q,B}))|@go t h1=>show U () {.ref b,(),.inr {b,"go",_,2,(),i,T.nW,λ_=>?_,λe=>absurd () e}};show U () (rX i (aj (k:=0) ()) (au ?_));(iterate 5 show U () {(),U () (wn ?_)});show U () (U () (.inr {b,M,Z,c,_,t,_,(),i,o,n,h1,.other (dk ()) (dk ()),q,B}))|@close t h1=>show U () {.ref b,(),.inr {b,"close",_,2,(),i,T.kB,λ_=>?_,λe=>absurd () e}};show U () (rX i (aj (k:=0) ()) (au ?_));(iterate 5 show U () {(),U () (wn ?_)});show U () (U () (.inr {b,M,Z,c,_,t,_,(),i,o,n,h1,.other (dk ()) (dk ()),q,B}))
def wU(T:Txt K mg a)(W:w.params=a.pm):aT P w K mg base (oN P w) 14 a.jk.x a.jk.d ["self","deed"] (λB H Q E=>KR P w K a B H Q E\/KS P w K a B H Q E):=by
 show T.jk.f.okE qX (λB H Q E h=>?_) (λX A outer s H B Q E t h=>?_)
 ·rcases h with⟨v,M,Z,c,rfl,_⟩|⟨M,Z,c,n,d,D,rfl,_⟩
  ·rfl
  ·rfl
 ·show{_,(ah (aY (aP ((ue T W).mono (by decide)) t () T.fj.m T.fj.f.kp T.fj.b .nil bS (O (Y 1) (O (aL K () (Y 0)) (O (aL K () (Y 0)) (O (aL K () (Y 0)) ae)))))) (ah (bn 2 qX.nd (bw (Y 0) T.aF T.gh.m ((u8 (P:=P) (w:=w) T).mono (by decide)) t T.gh.b .nil bS (O (Y 1) ae))) (ah (aY (ja K () PySem.F.plainAttrs_list PySem.F.slot_list_append PySem.F.type_list_append fC (aL K () (Y 0)) (O (Y 1) ae))) (ai (az (Y 2)))))),?_}
  rcases h with⟨v,M,Z,c,rfl,i,C,q⟩|⟨M,Z,c,n,d,D,rfl,i,hc,S,C,q,qr,qc⟩
  ·have k:=i.g.house;show U () (iN k T.aF T.cD () () (iN k T.aF T.a9 () () (iN k T.aF T.bg () () (.inl {v,M,Z,c,(),i.g,i.ok,C,q}))))
  ·have k:=i.g.house;show U () (iN k T.aF T.cD () () (iN k T.aF T.a9 () () (iN k T.aF T.bg () () ?_)));show .inr {n,M,Z,c,d,D,(),S,i.g,i.ok,C,λo H1 l=>?_,λo=>qc (Dd.clo_adds o)};show nM (l _ _ k) () () (U () {M,Z,c,n,d,D,(),i.same l,hc,ao.tseq l S,C.kp (.of l),λr us I j V nx st e t J p=>?_,λha H' s'=>qr ha H' (l.trans s')});have u:=e.g.house;rw[st.hh]at u;have y:=e.g.dees;have L:=i.ds;show au (iN u T.aF T.mw () () {.inl {(),_,aW.of y},U () (rA y (by rw[p,ji];lia) ?_)});have N:=e.g.deed (.ref n);have R:gw V I j (aH V (j.G .dl) (.lst (j.ds++[.ref n]))) I {j with ds:=j.ds++[.ref n]}:=gw.put (r:=.dl) trivial () () () () λx hx=>.inl hx;show U () (q o r us I {j with ds:=j.ds++[.ref n]} _ nx (((gw.of l).trans st).trans R) {N,e.ok,e.tk,e.ow,by change(j.ds++[_]).length<=c+1;rw[j1,p];show y_ L} (l.free t) ?_ (by change j.ds++[_]=_;rw[p]));rw[aq λz=>?_]
   ·show J
   ·rw[z,st.dd,l _ _ i.g.dees]at t;cases t
end
theorem oF:∀{W:Wl}{s:AS}{k:bY},(∀x∈W,x.1≠k)->(bM s W).pl k=s.pl k|[],_,_,_=>()|x::r,s,k,h=>(oF (W:=r) λy b=>h y (j_ _ b)).trans (iA λe=>h x mo e.symm)
theorem og:∀{W:Wl}{s:AS}{k:bY},(∀x∈W,x.1≠k)->(cf n s W).pl k=s.pl k|[],_,_,_=>()|x::r,s,k,h=>(og (W:=r) λy b=>h y (j_ _ b)).trans (iA λe=>h x mo e.symm)
def EU{W:Wl}:∀{s:AS}{k:bY},s.pl k=[]->(bM s W).pl k=[]:=by induction W with|nil=>showλh=>h|cons x r b=>
  intro s k h;show b (s:=s.give x.1 x.2.toNat) ?_;change(if k=x.1 then(s.pl x.1).take x.2.toNat else s.pl k)=[]
  split
  ·next e=>rw[<-e,h,Ob]
  ·show h
def Ch{W:Wl}:∀{s:AS}{x:bY×Int},x∈W->x.2=0->(bM s W).pl x.1=[]:=by induction W with|nil=>show nofun|cons y r c=>
  intro s x b h0;rcases so.mp b with rfl|b
  ·show EU (W:=r) (s:=s.give x.1 x.2.toNat) ?_;change(if x.1=x.1 then(s.pl x.1).take x.2.toNat else s.pl x.1)=[];rw[i_ (),h0];rfl
  ·show c (s:=s.give y.1 y.2.toNat) b h0
def Bs{n:Nat}{W:Wl}:∀{s:AS},(∀x∈W,x.2=0)->∀k,(cf n s W).pl k=s.pl k:=by induction W with|nil=>showλ_ _=>()|cons x r b=>
  intro s h k;show(b (s:=s.took n x.1 x.2.toNat) (λy c=>h y (j_ _ c)) k).trans ?_;change(if k=x.1 then s.pl x.1++(oM n s.oc).take (x.2.toNat-(s.pl x.1).length)else s.pl k)=s.pl k
  split
  ·next e=>rw[h x mo,e,show(0:Int).toNat-(s.pl x.1).length=0 from Nat.zero_sub _,MH,pv]
  ·rfl
def Ay{x:Str}{arms:OL}{l:OQ}{z:bY×Int}(h:z∈mO x arms l):∃y∈arms,z.1=cQ x y:=by obtain⟨p,b,rfl⟩:=k_.mp h;show{p.1,(MM b).1,()}
def jm(M:bq):Prop:=∀t∈M.trs,t.clo=true->∀l∈M.las,l.nm=t.home->∀y∈t.arms,l.S.pl (cQ t.nm y)=[]
def j0.tuniq{M:bq}{c:Nat}(h:j0 M c){t u:du}(f:t∈M.trs)(g:u∈M.trs)(e:t.nm=u.nm):t=u:=by obtain⟨i,hi⟩:=iq.mp f;obtain⟨j,b⟩:=iq.mp g;have q:i=j:=(I_ (by rw[b_];show(d_.mp hi).1) h.tn).mp (by rw[ig,ig,hi,b];show r_ some e);rw[q,b]at hi;show(mu hi).symm
def jm.told{M:bq}{i:Nat}{l:cb}{W:Wl}{ins:List (Str×Str×Str)}(h:jm M)(g:M.las[i]?=some l)(e:∀t∈M.trs,t.clo=true->∀y,∀x∈W,x.1≠cQ t.nm y):jm (M.setL i {l with S:=cf M.p (bM l.S W) W,ins:=ins}):=λt b hc d c hh y f=>by
 rcases pw (show d∈M.las.set i _ from c)with z|z
 ·show h t b hc d z hh y f
 ·subst z;change(cf M.p (bM l.S W) W).pl (cQ t.nm y)=[];rw[og (e t b hc y),oF (e t b hc y)];show h t b hc l (g_ g) hh y f
def jm.share{M:bq}{c i:Nat}{l:cb}{t:du}{ns:OQ}(h:jm M)(f:j0 M c)(g:M.las[i]?=some l)(j:t∈M.trs)(hc:t.clo=false):jm (lP M i l t ns):=h.told g λu d b y x k e=>by obtain⟨z,_,m⟩:=Ay k;rw[f.tuniq d j (kY (e.symm.trans m)).1,hc]at b;cases b
theorem jm.setT{M:bq}{j:Nat}{t t':du}(h:jm M)(e:M.trs[j]?=some t)(h1:t'.nm=t.nm)(h2:t'.home=t.home)(h3:t'.arms=t.arms)(h4:t'.clo=t.clo):jm (M.setT j t'):=λu d hc l b hh y c=>by
 rcases pw (show u∈M.trs.set j _ from d)with z|z
 ·show h u z hc l b hh y c
 ·subst z;rw[h1];show h t (g_ e) (h4▸hc) l b (hh.trans h2) y (h3▸c)
def yZ{M:bq}{l:cb}{t:du}{y:Str}(c:y∈t.arms):(cf M.p (bM l.S (mO t.nm t.arms (iF t))) (mO t.nm t.arms (iF t))).pl (cQ t.nm y)=[]:=by
 have d:∀x∈mO t.nm t.arms (iF t),x.2=0:=λx e=>by obtain⟨p,f,rfl⟩:=k_.mp e;show NH (MM f).2
 obtain⟨k,b⟩:=iq.mp c;have hm:(cQ t.nm y,(0:Int))∈mO t.nm t.arms (iF t):=g_ (CJ (x:=t.nm) b (List.getElem?_replicate_of_lt (d_.mp b).1));rw[Bs d];show Ch hm ()
def jm.next{M Q:bq}{c:Nat}{d:Dd}{R:List V}(h:jm M)(r:j0 M c)(D:jp K H M d R)(hd:d.clo=false)(n:gN M d Q):jm Q:=by cases n with
 |layer=>
  intro t s hc l b hh y m;rcases List.mem_append.mp b with z|z
  ·show h t s hc l z hh y m
  ·rw[List.mem_singleton.mp z];rfl|trial=>
  intro t s hc l b hh y m;rcases List.mem_append.mp s with z|z
  ·show h t z hc l b hh y m
  ·cases D with|@trial x ar sh Z ws h1 h2 h3 h4 h5 h6 h7 h8 h9 T hb U E he hf=>rw[List.mem_singleton.mp z,E]at hc;cases hc
 |share b hh hn=>cases D with|share h1=>show h.share r b h1 hd
 |deal b hh hn=>cases D with|deal h1=>show h.share r b h1 hd
 |@hold l z i b=>show h.told (ins:=l.ins) b λu B _ y x F e=>?_;rw[List.mem_singleton.mp F]at e;have:=(r.tr u B).wd.1;rw[<-(kY e).1]at this;show absurd this (dk ())|pause C=>show h.setT C () () () ()|@close t i j l C b hh=>
  intro u B hc A o f y m;have G:=g_ b;have I:=g_ C;rcases pw (show u∈M.trs.set j _ from B)with z|z
  ·rcases pw (show A∈M.las.set i _ from o)with q|q
   ·show h u z hc A q f y m
   ·subst q;have ne:∀x∈mO t.nm t.arms (iF t),x.1≠cQ u.nm y:=λx F e=>by obtain⟨y',_,W⟩:=Ay F;rw[r.tuniq z I (kY (e.symm.trans W)).1,show t.clo=false from hd]at hc;cases hc
    change(cf M.p (bM l.S (mO t.nm t.arms (iF t))) (mO t.nm t.arms (iF t))).pl (cQ u.nm y)=[];rw[og ne,oF ne];show h u z hc l G f y m
  ·subst z;rcases pw (show A∈M.las.set i _ from o)with q|q
   ·obtain⟨i',J⟩:=iq.mp q;have e:=pT r.ln J b (f.trans hh.symm);obtain⟨k,L⟩:=iq.mp o;have L:(M.las.set i _)[k]?=some A:=L;rcases mR L with⟨rfl,rfl⟩|⟨X,N⟩
    ·show yZ m
    ·show absurd (pT r.ln N b (f.trans hh.symm)) X
   ·subst q;show yZ m|@bar g t i j l C b hh=>
  intro u B hc A o f y m;have h1:=h.setT (t':={t with bar:=ee t.bar g}) C () () () () u B hc;rcases pw o with z|z
  ·show h1 A z f y m
  ·subst z;show h1 _ (g_ b) f y m|visit T v=>intro t s hc l b hh y m;rw[v.trs]at s;rw[v.las]at b;obtain⟨Y,O,rfl⟩:=k_.mp b;show h t s hc Y O hh y m
theorem uQ.same{M:bq}{v:V}(s:ao H H')(h:uQ K H M v):uQ K H' M v:=by cases h with|form h=>show .form (h.same s)|pause h=>show .pause (ao.tseq s h)|go h=>show .go (ao.tseq s h)|layer h h1=>show .layer (ao.tseq s h) h1|trial h h1=>show .trial (ao.tseq s h) h1|arms h h1 h2 h3 h4=>show .arms (ao.tseq s h) h1 h2 (ao.tseq s h3) h4|share h h1 h2 h3=>show .share (ao.tseq s h) h1 (ao.tseq s h2) h3|deal h h1=>show .deal (ao.tseq s h) h1|hold h h1=>show .hold (ao.tseq s h) h1|bar h h1 h2 h3=>show .bar (ao.tseq s h) h1 h2 h3|close h h2 h3=>show .close (ao.tseq s h) h2 h3|guest h=>show .guest (ao.tseq s h)|marks h h1 h2=>show .marks (ao.tseq s h) h1 (h2.same s)
def Kf(K:OF)(H:Hp)(M:bq)(v:V):Prop:=uQ K H M v\/∃b l z,v=.ref b/\aS K H b [.str "hold",.str l.nm,.int z]/\l∈M.las/\0<=z
theorem Kf.same{M:bq}{v:V}(s:ao H H')(h:Kf K H M v):Kf K H' M v:=h.imp (·.same s) λ⟨b,l,z,h1,h2,h3⟩=>{b,l,z,h1,ao.tseq s h2,h3}
def EvO(K:OF)(M:bq)(c:St)(te:TE):Prop:=∀(H:Hp)(Q:VK),(∀v H',ao H H'->Kf K H' M v->Q v H')->te c H Q
def Av(K:OF)(M:bq)(c:St)(n:Nat)(e:TA):Prop:=∀(H:Hp)(Q:List V->Hp->Prop),(∀b H',ao H H'->b.length=n->(∀u∈b,Kf K H' M u)->Q b H')->e c H Q
def MB(K:OF)(M:bq)(H:Hp)(n:Nat)(v:V):Prop:=∃a b,v=.ref a/\H a=some (.lst b)/\b.length=n/\∀u∈b,Kf K H M u
def Fq{te:TE}{i:Nat}{u:TS}{D:jl}{c:St}(h:te c H λx e=>u D (c.set i (some x)) e):rK (wB te (io i)) u D c H:=h
def n9{p b:Addr}{o c:HO}(h:H p=some o)(e:H b=none):aH H b c p=some o:=by rw[aq (aG h e)];show h
section
variable{K:OF}{M:bq}{c:St}{te:TE}{f:TA}{m n:Nat}{H:Hp}{Q:VK}
def Av.nil:Av K M c 0 Ir:=λH Q h=>h [] H (ao.refl H) () λ_ z=>nomatch z
def Av.cons(h1:EvO K M c te)(h2:Av K M c n f):Av K M c (n+1) (HG te f):=λH Q h=>h1 H _ λv d e o=>h2 d _ λg i b j k=>h (v::g) i (e.trans b) (by rw[oi,j]) λu l=>by
 rcases so.mp l with rfl|z
 ·show o.same b
 ·show k u z
def DZ(h:Av K M c n f)(hn:n<=16)(q:∀v H',ao H H'->MB K M H' n v->Q v H'):Iw f c H Q:=h H _ λd k e g i=>{cG (by lia),λp b=>q _ _ (ak e b) {p,d,(),ag,g,λu j=>(i u j).same (ak (ao.refl _) b)}}
def wW{i:Nat}{v:V}(l:MB K M H m v)(e:c[i]?=some (some v))(h:Av K M c n f)(hn:m+n<=16)(q:∀v H',ao H H'->MB K M H' (m+n) v->Q v H'):Iq Lc (FI i) (Iw f) c H Q:=by
 obtain⟨a,k,rfl,o,r,s⟩:=l;show{_,e,DZ h (by lia) λv B d⟨b,t,e,x,g,y⟩=>{a,b,k,t,(),e,d _ _ o,x,cG (by lia),λp j=>q _ _ (ak d j) {p,U () {ag,by rw[j1,r,g],λu A=>Kf.same (ak (ao.refl _) j) ?_}}}};rcases List.mem_append.mp A with z|z
 ·show(s u z).same d
 ·show y u z
end
inductive IT(K:OF)(vs:List V)(H:Hp)(Q:VK)(_E:XK):Prop|mk(sc:Addr)(ns:OQ)(M:bq)(A:wu)(c:Nat)(k:Int)(_:vs=[.ref sc,.ref A.pl,.int k])(_:uN K H sc ns M A c)(_:(0<=k/\k<=1000))(_:ix K ns M A H Q)(_:(0<M.trs.length->∀v H',ao H H'->uQ K H' M v->Q v H'))
section
def wT(T:Txt K mg a):aT P w K mg base d0 7 a.iS.x a.iS.d ["_law_script","_law_plan_here","_law_k"] (IT K):=by
 show T.iS.ok cj λal A outer s H vs Q E Z h=>?_
 ·obtain⟨sc,ns,M,A,c,k,rfl,o,⟨k0,k1⟩,q0,qx⟩:=h;show{_,(ah (bn 3 cj.nd (pc T.eB (cN T) Z (O (Y 0) (O (Y 2) (O af ae))))) (ah (aK (PW.pt (fb (aC pE (ay aU (Y 3) af) af (aE _)) (dP (aC aQ (aA (aI K ()) (by rfl) T.bE L2.aJ (O (gG K (Y 1) af) ae)) af (aE _))))) (ai (az (pc T.wz (DX T) Z (O (Y 0) (O (Y 1) (O (Y 2) ae)))))) aD) (ah (gP (gG K (gG K (Y 1) af) (ay aU (ay bp (Y 3) af) (aA (aI K ()) (by rfl) T.bE L2.aJ (O (gG K (Y 1) af) ae)))) (eU K () () (bd (oK 4 cj.nd) (bd (oK 5 cj.nd) eT)))) (ah (bn 6 cj.nd (gG K (gG K (Y 1) af) (ay aU (ay bp (Y 3) af) (aA (aI K ()) (by rfl) T.bE L2.aJ (O (gG K (Y 1) af) ae))))) (ah (bn 7 cj.nd (pc T.mM (qu T) Z (O (ay aU (ay bp (Y 3) af) af) (O (pc T.eB (cN T) Z (O (Y 0) (O af (O af ae)))) ae)))) (ah (bn 8 cj.nd (bf (O (aO (O av (O (Y 6) (O af ae)))) (O (aO (O av (O (Y 4) (O (dB (fq K ()) (by rfl) T.d9 L2.bZ (O (uu mL ["_law_j"] [] [9] (am l7) (bW 9) (dA () T.eV (O (ay bP (Y 5) af) ae)) (λcl C s₀ H₀ ex=>{(lF mL ["_law_j"] 9),bR,af})) ae)) ae)))) (O (aO (O av (O av (O (aO ae) ae)))) ae))))) (ah (bn 8 cj.nd (ay ox (Y 8) (bf (O (aO (O av (O (Y 7) (O av ae)))) (O jN (O (aO (O av ae)) (O (aO (O av (O (Y 6) (O (HN CL af) ae)))) (O (aO (O av (O (Y 6) (O (ay DQ af af) ae)))) ae)))))))) (ah (bn 8 cj.nd (ay ox (Y 8) (bf (O (aO (O av (O (Y 4) (O (Y 6) (O (aO (O av ae)) (O (aO (O av ae)) (O (aO ae) ae))))))) (O (aO (O av (O (Y 4) (O af (O (aO (O af ae)) ae))))) (O (bf (O av (O (Y 4) ae))) ae)))))) (ah (bn 8 cj.nd (ay ox (Y 8) (bf (O (aO (O av (O (Y 7) (O (bf (O (aO (O av (O af ae))) ae)) ae)))) (O (aO (O av (O (Y 7) (O (aO (O (aO (O av (O af ae))) (O (aO (O av (O af ae))) ae))) ae)))) (O (aO (O av (O av ae))) ae)))))) (ah (bn 8 cj.nd (ay ox (Y 8) (bf (O (aO (O av (O av (O (Y 6) (O (aO (O av (O av ae))) (O (aO (O av ae)) (O (aO ae) ae))))))) (O (aO (O av (O (Y 4) (O (Y 4) ae)))) ae))))) (ai (az (gG K (Y 8) (ay aU (ay bp (Y 3) af) af)))))))))))))),?_}
  show iK λu1 r=>?_;show U () (U () {sc,ns,k,95,(),o.sq,o.len,{by lia,by lia},{by decide,by decide},au (nR ?_)});subst r;have x0:=(AX ns k 95).1;generalize cV ns k 95=x at x0⊢;have y:=o.pl;obtain⟨us,F,R⟩:=y.T;have S:=Paired.length R;rw[show(iG M).length=M.trs.length from b_ _]at S;show rp True (0<M.trs.length) (λQ hT hF=>?_) (λ_ N=>?_) (λt0=>?_)
  ·show U () (r2 {(show(0:Int)<5 by decide),_,U () {(),U () (lD (λ_=>hT trivial) (λ_=>?_))}});show U () (rX (aW.of y.pl) (aj (k:=3) ()) {_,us.length,(),.inl {_,aW.of F,()},(),U () (yT (λ_=>hT trivial) (λe=>hF (Nat.pos_of_ne_zero λz=>e (by rw[S,z];rfl))))})
  ·show U () (U () (U () {sc,ns,M,A,c,k,(),o,(k0,k1,),q0}))
  obtain⟨t,b,B,aa,hb⟩:=o.tri F R (x/5) t0;show iK λu1 r=>?_;show U () (rX (aW.of y.pl) (aj (k:=3) ()) (U () (r2 {{by decide,by decide},U () (rX (aW.of y.pl) (aj (k:=3) ()) {_,us.length,(),.inl {_,aW.of F,()},_,U () {(),by change(0:Int)<(us.length:Int);lia,A.T,_,_,U () {(),aW.of F,aa,?_}}})})));show{b,U () {hb,(),_,U () (au {_,U () (au {(),nR ?_})})}};subst r;show iK λu1 r=>?_;have l0:0<(gc M).length:=List.length_pos_of_mem (o.ok.tr t B).hm;have bl:=bI (x/30) (show(0:Int)<((gc M).length:Int)by lia);obtain⟨nm,ac,ha⟩:=ip bl.1 bl.2;obtain⟨l,hl,rfl⟩:=k_.mp ac;show U () (rX (aW.of y.pl) (aj (k:=2) ()) (U () (r2 {{by decide,by decide},U () (rX (aW.of y.pl) (aj (k:=2) ()) {_,(gc M).length,(),.inl {_,aW.of y.L,by rw[b_]},_,U () {(),by change(0:Int)<((gc M).length:Int);lia,A.L,_,_,U () {(),aW.of y.L,ha,au (nR ?_)}}})})));subst r;show iK λu1 r=>?_;show U () (r2 {{by decide,by decide},_,U () {(),(show(0:Int)<7 by decide),U () {sc,ns,4,6,(),o.sq,o.len,{by decide,by decide},{by decide,by decide},x/120%7,cV ns 4 6,(),λg H1 s1 hg=>au (nR ?_)}}});subst r;have hA:=o.same s1;have q:=q0.same s1;have qx:∀v H',ao H1 H'->uQ K H' M v->Q v H':=λv H' s'=>qx t0 v H' (s1.trans s');clear o q0 s1 y hb;have y:=hA.pl;have nn:("nothingso":Str)∉M.trs.map du.nm:=λz=>by obtain⟨u,hu,e⟩:=k_.mp z;obtain⟨j,hj⟩:=iq.mp hu;show CK _ _ ((hA.pn.tn j u hj).1.symm.trans e)
  have nw:Wd "nothingso":={by decide,by decide,dk ()};have ow:Wd "old":={by decide,by decide,dk ()};have wn:Wd "newtrial":={by decide,by decide,dk ()};have sz:∀{n:Nat},Nat.ble n 8=true->n<=sizeLine:=λh=>cG (by have:=N5 h;lia);show Fq (DZ (K:=K) (M:=M) (n:=3) (.cons ?_ (.cons ?_ (.cons ?_ .nil))) (by decide) λv1 H2 V o2=>?_)
  ·showλH Q q=>(U () {sz (),λp f=>q _ _ (ak (ao.refl H) f) (.inl (.layer (aS.of ag) hl))})
  ·have a4:=(hA.ok.tr t B).a4;showλH Q q=>(U () (U () (r2 {(t.arms.length:Int)+1,(),by lia,by lia,λD hD=>?_})));show ff (K:=K) (lo:=0) (n:=((t.arms.length:Int)+1).toNat) (λj G H'=>ao H H'/\H' D=some (.lst G)/\G.length=j) {ak (ao.refl _) hD,ag,()} ?_ ?_
   ·rintro j G H2 hj⟨V,I,W⟩;show au (iy (bh {I,by rw[ji];lia,lf hj {bu V hD,ag,by rw[j1,W];rfl}}))
   ·rintro G H2⟨V,I,W⟩;show{D,U () (.inl {aW.of I,λwv ad=>{sz (),λp f=>q _ _ (ak (ak V ad) f) (.inl (.share (aS.of ag) B (aS.of (n9 ag f)) (by lia)))}})}
  ·showλH Q q=>{sz (),λp0 h0=>{sz (),λp f=>q _ _ (ak (ak (ao.refl H) h0) f) (.inl (.guest (aS.of ag)))}}
  show Fq (wW o2 () (n:=5) (.cons ?_ (.cons ?_ (.cons ?_ (.cons ?_ (.cons ?_ .nil))))) (by decide) λv2 H3 s3 o3=>?_)
  ·showλH Q q=>(U () {sz (),λp f=>q _ _ (ak (ao.refl H) f) (.inl (.bar (aS.of ag) hg nw nn))})
  ·showλH Q q=>q _ H (ao.refl H) (.inl (.form {_,.non,fN (dk ())}))
  ·showλH Q q=>{sz (),λp f=>q _ _ (ak (ao.refl H) f) (.inl (.pause (aS.of ag)))}
  ·showλH Q q=>(U () {1,(),sz (),λp f=>q _ _ (ak (ao.refl H) f) (.inl (.hold (aS.of ag) hl))})
  ·showλH Q q=>(U () {10,20,(),(),{by decide,by decide,by decide},sz (),λp f=>q _ _ (ak (ao.refl H) f) (.inr {p,l,U () {aS.of ag,hl,dk ()}})})
  show Fq (wW o3 () (n:=3) (.cons ?_ (.cons ?_ (.cons ?_ .nil))) (by decide) λv3 H4 s4 o4=>?_)
  ·showλH Q q=>(U () (U () {sz (),λJ h1=>{sz (),λp2 h2=>{sz (),λp3 h3=>{sz (),λp f=>q _ _ (ak (ak (ak (ak (ao.refl H) h1) h2) h3) f) (.inl (.trial (aS.of ag) B))}}}}))
  ·showλH Q q=>(U () {sz (),λJ h1=>{sz (),λp f=>q _ _ (ak (ak (ao.refl H) h1) f) (.inl (.deal (aS.of ag) B))}})
  ·showλH Q q=>(U () {sz (),λp f=>q _ _ (ak (ao.refl H) f) (.inl (.form {_,.lst ag,fN (dk ())}))})
  show Fq (wW o4 () (n:=3) (.cons ?_ (.cons ?_ (.cons ?_ .nil))) (by decide) λv4 H5 s5 o5=>?_)
  ·showλH Q q=>(U () {sz (),λJ h1=>{sz (),λp2 h2=>{sz (),λp f=>q _ _ (ak (ak (ak (ao.refl H) h1) h2) f) (.inl (.marks (aS.of ag) hg (.inl {_,.lst (xs:=[.ref J]) ?_,fN (dk ())})))}}});show ak (ao.refl _) f _ _ ag
  ·showλH Q q=>(U () {sz (),λJ h1=>{sz (),λp2 h2=>{sz (),λp3 h3=>{sz (),λp f=>?_}}}});show q _ _ (ak (ak (ak (ak (ao.refl H) h1) h2) h3) f) (.inl (.marks (aS.of ag) hg (.inr {[("age",1),("age",2)],{p3,U () {aS.of (n9 ag f),(),λi m e=>?_}},λm hm=>?_,by decide,by decide})))
   ·match i,e with|0,e=>cases e;show{J,(),aS.of (n9 (n9 (n9 ag h2) h3) f)}|1,e=>cases e;show{p2,(),aS.of (n9 (n9 ag h3) f)}
   ·have an:=qi;have aw:Wd "age":={by decide,by decide,dk ()};rcases so.mp hm with rfl|hm
    ·show{aw,by change-cI<=1;lia,by change 1<=cI;lia}
    ·rw[List.mem_singleton.mp hm];show{aw,by change-cI<=2;lia,by change 2<=cI;lia}
  ·showλH Q q=>{sz (),λp f=>q _ _ (ak (ao.refl H) f) (.inl (.close (aS.of ag) nw nn))}
  show Fq (wW o5 () (n:=2) (.cons ?_ (.cons ?_ .nil)) (by decide) λv5 H6 s6 o6=>?_)
  ·showλH Q q=>(U () {sz (),λJ h1=>{sz (),λp2 h2=>{sz (),λp3 h3=>{sz (),λp f=>q _ _ (ak (ak (ak (ak (ao.refl H) h1) h2) h3) f) (.inl (.arms (aS.of ag) wn hl (aS.of ?_) ow))}}}});show ak (ak (ak (ao.refl _) h2) h3) f _ _ ag
  ·showλH Q q=>(U () (U () {sz (),λp f=>q _ _ (ak (ao.refl H) f) (.inl (.go (aS.of ag)))}))
  obtain⟨a6,X,rfl,h6,l6,o6⟩:=o6;have b6:=bI (x/840) (show(0:Int)<16 by decide);obtain⟨v,hv,hm⟩:=uG (xs:=X) b6.1 (by rw[l6];show b6.2);have sA:=(((V.trans s3).trans s4).trans s5).trans s6;show U () (U () (r2 {{by decide,by decide},_,U () {(),(show(0:Int)<16 by decide),a6,X,_,v,(),(),aW.of h6,hv,?_}}));rcases o6 v hm with d|⟨b',l',z,rfl,h1,h2,h3⟩
  ·show qx v _ sA d
  ·show q b' (.hold l' z) _ _ (.of sA) h1 (.hold h2 h3) (y.same sA) trivial λz=>absurd z (op t0)
end
inductive Ax(K:OF)(H:Hp)(M:bq):V->Option (Dd×List V)->Prop|dd{b:Addr}{d:Dd}{xs:List V}(h:aS K H b xs)(h1:jp K H M d xs):Ax K H M (.ref b) (some (d,xs))|no{v:V}(h:uQ K H M v):Ax K H M v none
inductive FR(P:OK)(w:World)(K:OF)(a:f8)(vs:List V)(H:Hp)(Q:VK)(_E:XK):Prop|mk(M:bq)(Z:ZS)(c:Nat)(v:V)(o:Option (Dd×List V))(_:vs=[.ref (Z.G .hh),v])(_:dn P w K a H M Z c)(_:c<=63)(_:Ax K H M v o)(_:(∀d xs,o=some (d,xs)->d.clo=false->∀(r:Addr)(us:List V)(M':bq)(Z':ZS)(H':Hp),gN M d M'->gw H M Z H' M' Z'->dn P w K a H' M' Z' (c+1)->H' r=some (.lst us)->Q (.ref r) H'))(_:((∀d xs,o=some (d,xs)->d.adds=false)->∀H',ao H H'->Q .non H'))
section
def BU(T:Txt K mg a)(I:w.params=a.pm):aT P w K mg base d0 15 a.qO.x a.qO.d ["_law_house","_law_deed_here"] (FR P w K a):=by
 show T.qO.ok vB λJ A outer s H vs Q E F h=>?_
 ·obtain⟨M,Z,c,v,o,rfl,l,hc,f,L,n⟩:=h;show{_,(ah (Gp K () () () T.u9 () T.w6 (λE G σ Xe N=>(IX (i:=2) vB.nd () (by first|show Or.inl ()|show Or.inr ()) (GQ (Y 0) T.aF T.jk.m ((wU (P:=P) (w:=w) T I).mono (by decide)) F T.jk.b .nil N (O (Y 1) ae)))) (λea=>(ai (az jN)))) (ai (az (Y 2)))),?_}
  cases f with|@dd b d p R f=>
   have na:d.adds=false->∀q j,some (d,p)=some (q,j)->q.adds=false:=λh q j e=>by cases e;show h
   show nM l.g.house () () (U () (.inr {M,Z,c,b,d,p,(),l,hc,R,f,λt r S V W k nx st y F z X=>au (U () (L d p () t r S V W k nx st y z)),λB k D=>(U () {T.lJ,n (na B) k D}),λB k D=>(U () {T.lL,n (na B) k D})}))|no f=>show(nM l.g.house () () (U () (.inl {v,M,Z,c,(),l,f,λC H' u s=>(U () {u,n (λ_ _ e=>nomatch e) H' s})})))
end
def wq(K:OF)(H:Hp)(g:Str)(e:List V)(ls:List cb):Prop:=Paired (λ(u:V)(l:cb)=>∃b c,u=.ref b/\aS K H b [.str l.nm,c]/\uH K H c (cC l g)) e ls
theorem wq.kp{g:Str}(e:Kp H H'){c:List V}{ls:List cb}(h:wq K H g c ls):wq K H' g c ls:=Paired.mapP h λ_ _ q=>q.imp λ_ q=>q.imp λ_ q=>{q.1,e.tq q.2.1,q.2.2.kp e}
def wq.get{g:Str}{c:List V}{ls:List cb}(h:wq K H g c ls)(k:Nat)(u:V)(e:c[k]?=some u):∃l,ls[k]?=some l/\∃b f,u=.ref b/\aS K H b [.str l.nm,f]/\uH K H f (cC l g):=Paired.at_ h k u e
inductive FS(P:OK)(w:World)(K:OF)(a:f8)(vs:List V)(H:Hp)(Q:VK)(_E:XK):Prop|mk(M:bq)(Z:ZS)(c:Nat)(g:Str)(_:vs=[.ref (Z.G .hh),.str g])(_:dn P w K a H M Z c)(_:uP g)(_:∀(r:Addr)(us:List V)H',ao H H'->H r=none->H' r=some (.lst us)->fF K H' us (iW M g)->Q (.ref r) H')
inductive IP(P:OK)(w:World)(K:OF)(a:f8)(vs:List V)(H:Hp)(Q:VK)(_E:XK):Prop|mk(M:bq)(Z:ZS)(c:Nat)(g:Str)(_:vs=[.ref (Z.G .hh),.str g])(_:dn P w K a H M Z c)(_:c<=200)(_:uP g)(_:∀(r:Addr)(us:List V)H',ao H H'->H r=none->H' r=some (.lst us)->cz K H' us (cP M.came g)->Q (.ref r) H')
inductive JC(P:OK)(w:World)(K:OF)(H1:Hp)(M:bq)(Z:ZS)(g:Str)(D:Addr)(ep:Nat)(k:Nat)(acc:List V)(H2:Hp):Prop|mk(f:∀b o,H1 b=some o->b≠Z.G .ln->H2 b=some o)(hu:H2 (Z.G .ln)=some (dE P w (Z.G .ln) (jn (M.las.map cb.nm) λi=>.ref (Z.G (.lo i))) ep))(hD:H2 D=some (.lst acc))(hR:wq K H2 g acc (M.las.take k)):JC P w K H1 M Z g D ep k acc H2
section
def ml(T:Txt K mg a):aT P w K mg base d0 4 a.dF.x a.dF.d ["self","guest"] (FS P w K a):=by
 show T.dF.ok lV λbi A outer s H vs Q E hr h=>?_
 ·obtain⟨M,Z,c,g,rfl,hZ,hg,q⟩:=h;show{_,(ah (aY (pc T.bF (mj T) hr (O (Y 1) ae))) (ah (zC (P:=P) (w:=w) (Ai 2 dJ ["name","layer"] [] [3,4] (am ib) (xf _ 3 4) (yh (P:=P) (w:=w) (aL K () (Y 0))) (λcl C s₀ H₀ ex=>{(eU K () () (bd (lF dJ ["name","layer"] 3) (bd (lF dJ ["name","layer"] 4) eT))),bR,(aO (O (Y 3) (O (tX (bv hr) (aL K () (Y 4)) (Y 1) {(),(),(),()}) ae)))}) lV.nd)) (ai (az (uu dJ ["name","seat"] [] [3,4] (am ib) (xf _ 3 4) (c5 K () (Y 2)) (λcl C s₀ H₀ ex=>{(eU K () () (bd (lF dJ ["name","seat"] 3) (bd (lF dJ ["name","seat"] 4) eT))),(pD (aC wN (Y 4) jN (aE _))),(ay (t7 K ()) (aO (O (Y 3) ae)) (Y 4))})))))),?_}
  have ac:=hZ.ok.l4;show U () {g,(),hg,λH1 s1=>?_};have J:=hZ.same s1;have ad:=J.g.lays;show iN J.g.house T.aF T.a9 () () {Z.G .ln,U () {ad,λep=>λD hD=>?_}};have nd:Z.G .ln≠D:=λz=>by rw[<-z,ag]at hD;cases hD
  have al:H1 D=none:=by rw[aq (o8 nd)]at hD;show hD
  show xj (n:=M.las.length) (JC P w K H1 M Z g D ep) {λb o e n=>by rw[aq (aG e al),aq n];show e,by rw[aq nd,ag],ag,.nil} (λk f H2 R h=>by obtain⟨_,h,_⟩:=h;show{h,by rw[iJ,b_];show R}) ?_ ?_
  ·rintro k f H4 x H5 R⟨f4,t,S,I⟩⟨T1,kk,vv,a6,rfl,rfl,an⟩;obtain⟨l,N⟩:∃l,M.las[k]?=some l:={_,il R};rw[wX,ig,N]at an;obtain⟨rfl,rfl⟩:=Nj (mu an);show fM a6 λH5 s5 e5=>?_;have e5:H5 T1=some (.tup [.str l.nm,.ref (Z.G (.lo k))]):=e5;have V:sy P w K a H1 H5 M Z c:={J,λb o e n=>s5 _ _ (f4 b o e n)};show{T1,U () {aS.of e5,(),_,U () (au {_,U () (au {(),iy (bh ?_)})})}};have a7:=V.at_ (r:=.lo k) (by simp only[cont,N];rfl) (by simp);have ap:=V.at_ (r:=.iu k) (by simp only[cont,N];rfl) (by simp);show U () (iN a7 T.cr T.bT () () {Z.G (.iu k),(),.inl {_,.inl ap},U () {aX (Z.iv k) (.inr g),dq.k (k:=.inr g) ap,ls (),λT6 a8=>?_}});show fM a8 λH6 F e6=>?_;have m:=F _ _ (s5 _ _ S);have kp:Kp H6 (aH H6 D (.lst (f++[.ref T6]))):=.lst m;have as:f.length<=4:=by rw[Paired.length I];show lm (N9 _ _) ac
   show{m,by rw[ji];lia,lf R {λb o e n=>by rw[aq (aG e al)];show F _ _ (s5 _ _ (f4 b o e n)),by rw[aq nd];show F _ _ (s5 _ _ t),ag,?_}};rw[cg N];have bb:=(J.g.seats k _ N).seat g;show Paired.snoc (((I.kp (.of s5)).kp (.of F)).kp kp) {T6,U () {kp.tq (aS.of e6),((bb.kp V.kp).kp (.of F)).kp kp}}
  ·rintro f H4⟨f4,t,S,I⟩;rw[ku (e_ _)]at I;show{{t,by rw[iJ,b_];show e_ _},au {Z.G .ln,_,ep,t,?_}};have sF:ao H1 (aH H4 (Z.G .ln) (.dK (jn (M.las.map cb.nm) λi=>.ref (Z.G (.lo i))))):=λb o e=>by
    by_cases z:b=Z.G .ln
    ·rw[z,ad]at e;rw[z,ag];show e
    ·rw[aq z];show f4 b o e z
   have kp:Kp H4 (aH H4 (Z.G .ln) (.dK (jn (M.las.map cb.nm) λi=>.ref (Z.G (.lo i))))):={λu xs e=>by rw[aq λz=>by rw[z,t]at e;cases e];show e,λu o⟨o',e⟩=>{o',by rw[aq λz=>by rw[z,t]at e;cases e];show e}};have W:aH H4 (Z.G .ln) (.dK (jn (M.las.map cb.nm) λi=>.ref (Z.G (.lo i)))) D=some (.lst f):=by rw[aq (o8 nd)];show S
   have X:=I.kp kp;generalize aH H4 (Z.G .ln) (.dK (jn (M.las.map cb.nm) λi=>.ref (Z.G (.lo i))))=H5 at sF W X⊢;have as:f.length=M.las.length:=Paired.length X;show U () {D,(),{_,aW.of W},λD2 aa=>?_};show gj (K:=K) (a:=D) (xs:=f) (λk j H'=>ao H5 H'/\H' D2=some (.lst j)/\fF K H' j ((M.las.take k).filterMap λl=>(cC l g).map λp=>(l.nm,p.1,p.2))) {ak (ao.refl _) aa,ag,.nil} (λk j H' _ h=>aW.of (h.1 _ _ W)) ?_ ?_
   ·rintro k v j H6 hv⟨F,m,y⟩;have R:k<f.length:=(d_.mp hv).1;obtain⟨l,N,b,sv,rfl,hb,B⟩:=X.get k v hv;have ax:j.length<=4:=by rw[Paired.length y];show lm (K_ _ _) (lm (N9 _ _) ac)
    show{b,U () {ao.tseq F hb,(),_,U () (au {_,U () (au {(),?_})})}};cases L:cC l g with|none=>rw[L]at B;have B:sv=.non:=B;subst B;show U () {(),U () (bV (lf R {F,m,?_}))};rw[cg N,vl,t8,L];show(pv _).symm▸y|some p=>rw[L]at B;obtain⟨s,rfl,hs⟩:=B;show U () {(),U () (bh (U () {ls (),λT7 a2=>(U () {T7,s,[.str l.nm],U () {(),aS.of ag,ao.tseq (ak F a2) hs,by simp,by rw[ji];simp,λz=>(nomatch z),λ_ T8 bc=>?_}})}))};show fM bc λH9 s8 e9=>?_;have s9:=(ak (o:=.tup [.str l.nm]) (ao.refl H6) a2).trans s8;have e9:H9 T8=some (.tup [.str l.nm,.str p.1,.str p.2]):=e9;have a3:=s9 _ _ m;have a5:Kp H9 (aH H9 D2 (.lst (j++[.ref T8]))):=.lst a3;show{a3,by rw[ji];show si ax (l_ ()),lf R {bu (F.trans s9) aa,ag,?_}};rw[cg N,vl,t8,L];show Paired.snoc ((y.kp (.of s9)).kp a5) {T8,(),a5.tq (aS.of e9)}
   ·rintro j H6⟨F,m,y⟩;rw[as,ku (e_ _)]at y;show q D2 j H6 ((s1.trans sF).trans F) (s1.free (sF.free aa)) m y
def jR(T:Txt K mg a):aT P w K mg base d0 4 a.db.x a.db.d ["self","guest"] (IP P w K a):=by
 show T.db.ok u0 λC A outer s H N Q E i h=>?_
 ·obtain⟨M,Z,c,g,rfl,D,hc,hg,q⟩:=h;show{_,(ah (aY (pc T.bF (mj T) i (O (Y 1) ae))) (ai (az (dB (ux K ()) (by rfl) T.zN L2.qJ (O (tW (bv i) (aL K () (Y 0)) (Y 1) (bf ae) {(),(),(),()}) ae))))),?_}
  show U () {g,(),hg,λp v=>?_};have f:=D.same v;show iN f.g.house T.aF T.c6 () () {Z.G .ci,(),.inl {_,.inl f.g.cams},U () {ls (),λj t=>?_}};have m:=ak (o:=.lst []) (ao.refl p) t;have y:aH p j (.lst []) j=some (.lst []):=ag;generalize aH p j (.lst [])=z at m y⊢;show{aX Z.cv (.inr g),dq.k (k:=.inr g) (m _ _ f.g.cams),?_};obtain⟨n,b,F,u,I⟩:∃n b,(aX Z.cv (.inr g)).getD (.ref j)=.ref n/\z n=some (.lst b)/\cz K z b (cP M.came g):=by
   rcases f.g.came.find g with⟨e,J⟩|⟨l,L,e,_,h2,h3,h4⟩
   ·show{j,[],by rw[e];rfl,y,by rw[J];show .nil}
   ·show{l,L,by rw[e];rfl,m _ _ h2,h3.kp (.of m)}
  rw[F];have B:=v.trans m;show{n,b,(),.inl (aW.of u),λr i=>q r b _ (ak B i) (B.free i) ag (I.kp (.of (ak (ao.refl _) i)))}
end
inductive Db(K:OF)(h:Nat)(vs:List V)(H:Hp)(Q:VK)(_E:XK):Prop|mk(r:Ru)(rv:V)(ms:List (Str×Int))(mv:V)(_:vs=[rv,mv])(_:dS K H r rv)(_:r.hgt<=h)(_:lE K H ms mv)(_:∀H',ao H H'->Q (.bl (r.sat ms)) H')
inductive At(K:OF)(H:Hp):(Str×Int->Bool)->V->Prop|has{a:Addr}{w:Str}(h:aS K H a [.str "has",.str w]):At K H (EM w) (.ref a)|least{a:Addr}{w:Str}{n:Int}(h:aS K H a [.str "least",.str w,.int n]):At K H (eP w n) (.ref a)
def Ru.leaf:Ru->Bool|.has _=>true|.least _ _=>true|_=>false
def dS.leafs{r:Ru}{v:V}(h:dS K H r v):(∃f,At K H f v/\∀c,r.sat c=(c.map f).any id)\/r.leaf=false:=by cases h with|has h=>show .inl {_,.has h,λ_=>()}|least h=>show .inl {_,.least h,λ_=>()}|_=>show .inr ()
def Hr{f:Str×Int->Bool}{c:List (Str×Int)}{i:Nat}{m:Str×Int}(h:c[i]?=some m)(e:f m=true):(c.map f).any id=true:=NP.mpr {_,k_.mpr {m,g_ h,()},e}
def Ft{f:Str×Int->Bool}{c:List (Str×Int)}{i:Nat}{m:Str×Int}(h:c[i]?=some m)(e:f m=false)(q:((c.take i).map f).any id=false):((c.take (i+1)).map f).any id=false:=by rw[cg h,ir,List.any_append,q];change(f m||false)=false;rw[e];rfl
section
theorem vI(T:Txt K mg a):∀h:Nat,aT P w K mg base d0 (h+1) a.cW.x a.cW.d ["_law_rule_here","_law_marks_here"] (Db K h)
 |0=>by
  show T.cW.f.ok mU (λS H Q E h=>?_) (λW A outer s H S Q E B h=>?_)
  ·obtain⟨r,M,c,X,rfl,_⟩:=h;rfl
  ·obtain⟨r,M,c,X,rfl,_,hh,_⟩:=h;have:=r.hgt_pos;lia|n+1=>by
  have F:=vI T n;show T.cW.f.ok mU (λS H Q E h=>?_) (λW A outer s H S Q E B h=>?_)
  ·obtain⟨r,M,c,X,rfl,_⟩:=h;rfl
  ·obtain⟨r,M,c,X,rfl,hR,hh,C,q⟩:=h;obtain⟨mt,G,rfl,I,Z,aa⟩:=id C;show{_,(ah (aK (aC aQ (cA K (Y 0) af) av (aE _)) (ai (az dU)) aD) (ah (aK (aC aQ (cA K (Y 0) af) av (aE _)) (ai (az (wM (aP F B () T.cW.m T.cW.f.kp T.cW.b .nil bj (O (cA K (Y 0) af) (O (Y 1) ae)))))) aD) (ah (aK (aC aQ (cA K (Y 0) af) av (aE _)) (ai (az (cy (aP F B () T.cW.m T.cW.f.kp T.cW.b .nil bj (O (cA K (Y 0) af) (O (Y 1) ae))) (cU (aP F B () T.cW.m T.cW.f.kp T.cW.b .nil bj (O (cA K (Y 0) af) (O (Y 1) ae))))))) aD) (ah (aK (aC aQ (cA K (Y 0) af) av (aE _)) (ai (az (HP (aP F B () T.cW.m T.cW.f.kp T.cW.b .nil bj (O (cA K (Y 0) af) (O (Y 1) ae))) (cU (aP F B () T.cW.m T.cW.f.kp T.cW.b .nil bj (O (cA K (Y 0) af) (O (Y 1) ae))))))) aD) (ah (eO o0 () (gC K () (Y 1)) (eU K () () (bd (oK 2 mU.nd) (bd (oK 3 mU.nd) eT))) (ai (aK (PW.pt (jM (aC aQ (Y 2) (cA K (Y 0) af) (aE _)) (iH (PW.pt (fb (aC aQ (cA K (Y 0) af) av (aE _)) (dP (aC AQ (Y 3) (cA K (Y 0) af) (aE _)))))))) (ai (az dU)) aD))) (ai (az dU))))))),?_}
   rcases hR.leafs with⟨f,hf,es⟩|hl
   ·obtain⟨o,k,wd,N,rfl,p,n1,n2,n3,n4,hc⟩:∃(o:Addr)(k wd:Str)(N:List V),M=.ref o/\aS K H o (.str k::.str wd::N)/\k≠"any"/\k≠"not"/\k≠"both"/\k≠"either"/\((k="has"/\f=EM wd)\/(k≠"has"/\∃D,N=[.int D]/\f=eP wd D)):=by cases hf with|has h=>show{_,_,_,_,(),h,dk (),dk (),dk (),dk (),.inl {(),()}}|least h=>show{_,_,_,_,(),h,dk (),dk (),dk (),dk (),.inr {dk (),_,(),()}}
    show U () (rX p (aj (k:=0) ()) {(),U () (eS n1 ?_)});show U () (rX p (aj (k:=0) ()) {(),U () (eS n2 ?_)});show U () (rX p (aj (k:=0) ()) {(),U () (eS n3 ?_)});show U () (rX p (aj (k:=0) ()) {(),U () (eS n4 ?_)});show U () {mt,(),{_,I},?_};show A8 (K:=K) (a:=mt) (xs:=G) (λi R H'=>H'=H/\((c.take i).map f).any id=false/\(Kv λv2 v3=>R=[some (.ref o),some (.ref mt),v2,v3])) {(),(),_,_,()} (λi R H' _ h=>h.1▸I) ?_ ?_
    ·rintro i v R _ hv⟨rfl,J,v2,v3,rfl⟩;have hi:i<G.length:=(d_.mp hv).1;have hm:=il (l:=c) (i:=i) (by lia);generalize c[i]=m at hm;obtain⟨b,hb,hB⟩:=aa i m hm;rw[hb]at hv;cases hv;have L:f m=true->Q (.bl true) _:=λe=>by have q:=q _ (ao.refl _);rw[es,Hr hm e]at q;show q
     show{b,U () {hB,(),_,U () (au {_,U () (au {(),?_})})}};show U () (U () (rX p (aj (k:=1) ()) {(),U () (yL (λe=>?_) (λe=>?_))}))
     ·show U () (rX p (aj (k:=0) ()) {(),U () (yL (λek=>?_) (λek=>?_))})
      ·rcases hc with⟨_,rfl⟩|⟨z,_⟩
       ·show bh (L (by unfold EM;rw[e];show m_ ()))
       ·show absurd ek z
      ·rcases hc with⟨z,_⟩|⟨_,D,rfl,rfl⟩
       ·show absurd z ek
       ·have el:eP wd D m=decide (D<=m.2):=by unfold eP;rw[i_ (by rw[e];show m_ ())]
        show U () (U () (rX p (aj (k:=2) ()) (r2 (U () (lD (λh0=>L (by rw[el];show m_ h0)) (λh0=>{(),Ft hm (by rw[el];show me h0) J,_,_,()}))))))
     ·show bV {(),Ft hm ?_ J,_,_,()};have ne:¬V.str m.1=V.str wd:=λz=>e (V.str.inj z);rcases hc with⟨_,rfl⟩|⟨_,D,_,rfl⟩
      ·show me ne
      ·unfold eP;rw[iA (by rw[me ne];show kw)]
    ·rintro R _⟨rfl,J,v2,v3,rfl⟩;rw[Z,ku (e_ _)]at J;have q:=q _ (ao.refl _);rw[es,J]at q;show q
   ·cases hR with|any h=>show{_,(),_,_,0,_,(),(),h,(),(),_,(),aZ (q _ (ao.refl _))}|has h=>cases hl|least h=>cases hl|@not o g v h h1=>have hq:g.hgt+1<=n+1:=hh;show U () (rX h () {(),U () (wn ?_)});show U () (rX h () {(),U () (aZ ?_)});show U () (rX h () (U () {g,v,c,.ref mt,(),h1,by lia,C,λH' sm=>(U () (q H' sm))}))|@both o g t v u h h1 h2=>
     have hq:max g.hgt t.hgt+1<=n+1:=hh;(iterate 2 show U () (rX h () {(),U () (wn ?_)}));show U () (rX h () {(),U () (aZ ?_)});show U () (rX h () (U () {g,v,c,.ref mt,(),h1,by lia,C,λH' sm=>(U () ?_)}));have j:∀H',ao H H'->Q (.bl (if g.sat c=true then t.sat c else false)) H':=q;show sk (λe=>?_) (λe=>?_)
     ·rw[i_ e]at j;show U () (rX (ao.tseq sm h) () (U () {t,u,c,.ref mt,(),h2.kp (.of sm),by lia,C.kp (.of sm),λH2 y=>j H2 (sm.trans y)}))
     ·rw[iA (by rw[e];show kw)]at j;show j H' sm|@either o g t v u h h1 h2=>
     have hq:max g.hgt t.hgt+1<=n+1:=hh;(iterate 3 show U () (rX h () {(),U () (wn ?_)}));show U () (rX h () {(),U () (aZ ?_)});show U () (rX h () (U () {g,v,c,.ref mt,(),h1,by lia,C,λH' sm=>(U () ?_)}));have j:∀H',ao H H'->Q (.bl (if g.sat c=true then true else t.sat c)) H':=q;show sk (λe=>?_) (λe=>?_)
     ·rw[i_ e]at j;show j H' sm
     ·rw[iA (by rw[e];show kw)]at j;show U () (rX (ao.tseq sm h) () (U () {t,u,c,.ref mt,(),h2.kp (.of sm),by lia,C.kp (.of sm),λH2 y=>j H2 (sm.trans y)}))
end
def bN(h:H b=some o)(n:H b=none):False:=by rw[h]at n;cases n
section
variable{P:OK}{w:World}{K:OF}{a:f8}{H g:Hp}{M p:bq}{Z j:ZS}{f:List V}
def bx.ntup(h:bx P w K a H M Z)(L:gL M Z b):(∀f,H b≠some (.tup f))/\∀x y,H b≠some (.frz x y):=by
 have lst:∀l f,H l=some (.lst f)->(∀N,H l≠some (.tup N))/\∀x y,H l≠some (.frz x y):=λl f e=>by rw[e];show{λ_ z=>(nomatch z),λ_ _ z=>(nomatch z)}
 rcases L with⟨r,O,rfl⟩|⟨i,hi,x,k,e⟩|⟨x,k,e⟩
 ·obtain⟨o,q⟩:=mW P w a Z O;have im:=(h.imm (H':=λb=>if b=Z.G r then none else H b) q λb o e n=>by change(if b=Z.G r then none else H b)=_;rw[iA n];show e).kp;show{λf e=>?_,λx y e=>?_}
  ·have:=im.tp _ _ e;rw[i_ ()]at this;cases this
  ·obtain⟨_,this⟩:=im.fz _ _ {_,e};rw[i_ ()]at this;cases this
 ·obtain⟨_,⟨m,q,_⟩,_⟩:=h.tabs i _ (il hi);obtain⟨l,f,t,u⟩:=q.ex x k;rw[t]at e;cases e;show lst _ _ u
 ·obtain⟨l,f,t,u⟩:=h.came.ex x k;rw[t]at e;cases e;show lst _ _ u
def bx.stp(h:bx P w K a H M Z)(st:gw H M Z g p j):Kp H g:={λu f e=>st.fr _ _ e λz=>(h.ntup z).1 _ e,λu o⟨b,e⟩=>{b,st.fr _ _ e λz=>(h.ntup z).2 _ _ e}}
def gw.nf(st:gw H M Z g p j)(e:H b=some o)(n:¬gL M Z b):¬gL p j b:=λz=>(st.fp b z).elim n (bN e)
end
abbrev xE:=Nat->List (bK×V)
abbrev xI:=List (List bK×V)
def tQ(D:xE)(i:Nat)(L:List (bK×V)):xE:=λj=>if j=i then L else D j
noncomputable def HR(N:Nat->Addr):List (bK×V):=[(.inr "rules",.ref (N 1)),(.inr "pause",.ref (N 2)),(.inr "go",.ref (N 3)),(.inr "close",.ref (N 4)),(.inr "bar",.ref (N 5))]
def D0(N:Nat->Addr)(D:xE)(B:xI)(i:Nat):HO:=if i=0 then .dK (HR N)else if i=5 then .dT B else .dK (D i)
structure sI(H:Hp)(N:Nat->Addr)(D:xE)(B:xI):Prop where at_:∀i,i<6->H (N i)=some (D0 N D B i)inj:∀i j,i<6->j<6->N i=N j->i=j
def wx(N:Nat->Addr)(H H':Hp):Prop:=∀b o,H b=some o->(∀i,i<6->b≠N i)->H' b=some o
section
variable{H a c:Hp}{N:Nat->Addr}{D:xE}{B:xI}
def sI.same(h:sI H N D B)(s:ao H a):sI a N D B:={λi hi=>s _ _ (h.at_ i hi),h.inj}
def sI.put(h:sI H N D B){i:Nat}{D':xE}{B':xI}(hi:i<6)(e:∀j,j≠i->D0 N D' B' j=D0 N D B j):sI (aH H (N i) (D0 N D' B' i)) N D' B':={λj b=>by
 by_cases q:j=i
 ·rw[q,ag]
 ·rw[aq λz=>q (h.inj j i b hi z),e j q];show h.at_ j b,h.inj}
def sI.putD(h:sI H N D B){i:Nat}(h0:0<i)(f:i<5){L:List (bK×V)}:sI (aH H (N i) (.dK L)) N (tQ D i L) B:=by
 have e:D0 N (tQ D i L) B i=.dK L:=by unfold D0 tQ;rw[iA (op h0),iA (m3 f),i_ ()]
 rw[<-e];show h.put (t_ f) λj b=>?_;unfold D0 tQ;rw[iA b]
def sI.putB(h:sI H N D B){B':xI}:sI (aH H (N 5) (.dT B')) N D B':=h.put (D':=D) (B':=B') (by decide) λj b=>by unfold D0;rw[iA b,iA b]
def sI.d(h:sI H N D B){i:Nat}(h0:0<i)(e:i<5):H (N i)=some (.dK (D i)):=by rw[h.at_ i (t_ e)];unfold D0;rw[iA (op h0),iA (m3 e)]
def wx.kp(f:wx N H a)(h:sI H N D B):Kp H a:=by
 have g:∀b o,H b=some o->(∀d,o≠.dK d)->(∀d,o≠.dT d)->a b=some o:=λb o e h1 h2=>f b o e λi hi z=>by
  rw[z,h.at_ i hi]at e;have e:=mu e;unfold D0 at e
  split at e
  ·show h1 _ e.symm
  ·split at e
   ·show h2 _ e.symm
   ·show h1 _ e.symm
 show{λu d e=>g _ _ e (λ_ z=>(nomatch z)) (λ_ z=>(nomatch z)),λu o⟨j,e⟩=>{j,g _ _ e (λ_ z=>(nomatch z)) (λ_ z=>(nomatch z))}}
def wx.of(s:ao H a):wx N H a:=λb o e _=>s _ _ e
def wx.trans(f:wx N H a)(g:wx N a c):wx N H c:=λb o e n=>g b o (f b o e n) n
def wx.upd{i:Nat}(hi:i<6){o:HO}:wx N H (L2.aH H (N i) o):=λb o e n=>by rw[aq (n i hi)];show e
def Lg{k:Str}{i:Nat}(h:k="rules"/\i=1\/k="pause"/\i=2\/k="go"/\i=3\/k="close"/\i=4\/k="bar"/\i=5):aX (HR N) (.inr k)=some (.ref (N i)):=by rcases h with⟨rfl,rfl⟩|⟨rfl,rfl⟩|⟨rfl,rfl⟩|⟨rfl,rfl⟩|⟨rfl,rfl⟩<;>rfl
def sI.get(h:sI H N D B){k:Str}{i:Nat}(e:k="rules"/\i=1\/k="pause"/\i=2\/k="go"/\i=3\/k="close"/\i=4\/k="bar"/\i=5):dq H (N 0) (.str k) (some (.ref (N i))):=by rw[<-Lg e];show dq.k (k:=.inr k) (h.at_ 0 (by decide))
end
structure jX(K:OF)(H:Hp)(M:bq)(D:xE)(B:xI)(c:Nat):Prop where
 ru:∀t∈M.trs,∃(s sh:Addr)(rv:V),aX (D 1) (.inr t.nm)=some (.ref s)/\aS K H s [rv,.ref sh]/\dS K H t.rule rv/\aS K H sh (t.shuts.map V.str)pa:∀x,aX (D 2) (.inr x)≠none->∃t∈M.trs,t.nm=x/\t.pau=true
 cl:∀x,aX (D 4) (.inr x)≠none->∃t∈M.trs,t.nm=x/\t.clo=true
 ba:∀g x,aX B [.inr g,.inr x]≠none->∃t∈M.trs,t.nm=x/\g∈t.bar
 ln:(∀i,(D i).length<=c)/\B.length<=c
inductive L1(t:du):Str->du->Prop|pause:L1 t "pause" {t with pau:=true}|go:L1 t "go" {t with pau:=false}|close:L1 t "close" {t with clo:=true}
noncomputable def Jl(k:Str):Bool:=decide (k≠"trial")&&decide (lz (.str k) [.str "pause",.str "go",.str "close"]=false)&&decide (k≠"bar")
def GF{k:Str}(h:Jl k=true):k≠"trial"/\lz (.str k) [.str "pause",.str "go",.str "close"]=false/\k≠"bar":=by unfold Jl at h;rw[nk,nk]at h;show{l_ h.1.1,l_ h.1.2,l_ h.2}
inductive mI(K:OF)(H:Hp)(M M':bq):List V->Prop|trial{x:du}{ar ra sh:Addr}(h1:dS K H x.rule (.ref ra))(h2:aS K H sh (x.shuts.map V.str))(h3:x.nm∉M.trs.map du.nm)(e:M'.trs=M.trs++[x])(c:M'.came=M.came):mI K H M M' [.str "trial",.str x.nm,.str x.home,.ref ar,.ref ra,.ref sh]|mark{k:Str}{t t':du}{j:Nat}(hj:M.trs[j]?=some t)(h:L1 t k t')(e:M'.trs=M.trs.set j t')(c:M'.came=M.came):mI K H M M' [.str k,.str t.nm]|bar{g:Str}{t:du}{j:Nat}(hj:M.trs[j]?=some t)(e:M'.trs=M.trs.set j {t with bar:=ee t.bar g})(c:M'.came=M.came):mI K H M M' [.str "bar",.str g,.str t.nm]|oth{k:Str}{r:List V}(h1:Jl k=true)(e:M'.trs=M.trs)(c:(k≠"visit"/\M'.came=M.came)\/∃g mv ms ss,k="visit"/\r=[.str g,mv]/\uP g/\lE K H ms mv/\qd M g ms M.las ss/\iw g ss M M'):mI K H M M' (.str k::r)
section
variable{K:OF}{H l:Hp}{M f:bq}{D:xE}{B:xI}{c:Nat}{d:Dd}{a:List V}
def jp.note(h:jp K H M d a)(n:gN M d f):mI K H M f a:=by cases h with
 |trial h1 h2 h3 h4 i j k m e=>cases n;show .trial h4 e h2 () ()|pause=>cases n with|pause b=>show .mark b .pause () ()
 |go=>cases n with|pause b=>show .mark b .go () ()
 |close=>cases n with|close b=>show .mark b .close () ()
 |bar=>cases n with|bar b=>show .bar b () ()
 |visit h1 h2=>cases n with|visit g v=>show .oth (dk ()) v.trs (.inr {_,_,_,_,(),(),h1,h2,g,v})
 |_=>cases n;show .oth (dk ()) () (.inl {dk (),()})
theorem mI.kp(e:Kp H l)(h:mI K H M f a):mI K l M f a:=by cases h with|trial h1 h2 h3 b c=>show .trial (h1.kp e) (e.tq h2) h3 b c|mark i h b c=>show .mark i h b c|bar i b c=>show .bar i b c|oth h1 b c=>show .oth h1 b (c.imp_right λ⟨g,j,k,m,n,o,p,q,r⟩=>{g,j,k,m,n,o,p,q.kp e,r})
def mI.ever(h:mI K H M f a):(∃g e i j,a=[.str "visit",.str g,e]/\uP g/\lE K H i e/\qd M g i M.las j/\iw g j M f)\/∃k r,a=.str k::r/\k≠"visit"/\f.came=M.came:=by cases h with|trial h1 h2 h3 b c=>show .inr {_,_,(),by decide+kernel,c}|mark m h b c=>show .inr {_,_,(),by cases h<;>decide+kernel,c}|bar m b c=>show .inr {_,_,(),by decide+kernel,c}|oth h1 b c=>
  rcases c with⟨n,o⟩|⟨g,e,i,j,rfl,rfl,q⟩
  ·show .inr {_,U () (n,o,)}
  ·show .inl {g,e,i,j,(),q}
theorem jX.kp(e:Kp H l)(h:jX K H M D B c):jX K l M D B c:={h with ru:=λt b=>let⟨s,sh,g,h1,h2,h3,h4⟩:=h.ru t b;{s,sh,g,h1,e.tq h2,h3.kp e,e.tq h4}}
theorem jX.trs(h:jX K H M D B c)(e:f.trs=M.trs):jX K H f D B (c+1):={by rw[e];show h.ru,by rw[e];show h.pa,by rw[e];show h.cl,by rw[e];show h.ba,λi=>p6 (h.ln.1 i),p6 h.ln.2}
def yf{i:Nat}{x:Str}{v:V}(h:∀i,(D i).length<=c)(j:Nat):(tQ D i (cL (D i) (.inr x) v) j).length<=c+1:=by
 unfold tQ
 split
 ·show lm (gi _ _ _) (y_ (h i))
 ·show p6 (h j)
def jX.trial(h:jX K H M D B c){x:du}{s j sh:Addr}(m:aS K H s [.ref j,.ref sh])(h1:dS K H x.rule (.ref j))(h2:aS K H sh (x.shuts.map V.str))(h3:x.nm∉M.trs.map du.nm)(e:f.trs=M.trs++[x]):jX K H f (tQ D 1 (cL (D 1) (.inr x.nm) (.ref s))) B (c+1):=by
 show{λt b=>?_,λy i=>?_,λy i=>?_,λg y i=>?_,yf h.ln.1,p6 h.ln.2}
 ·rw[show tQ D 1 (cL (D 1) (.inr x.nm) (.ref s)) 1=cL (D 1) (.inr x.nm) (.ref s)from i_ (),oO];rw[e]at b;rcases List.mem_append.mp b with z|z
  ·rw[iA λq=>h3 (by rw[<-p5 q];show k_.mpr {t,z,()})];show h.ru t z
  ·rw[List.mem_singleton.mp z,i_ ()];show{s,sh,U () (m,h1,h2,)}
 ·obtain⟨t,b,q⟩:=h.pa y i;show{t,by rw[e];show ol _ b,q}
 ·obtain⟨t,b,q⟩:=h.cl y i;show{t,by rw[e];show ol _ b,q}
 ·obtain⟨t,b,q⟩:=h.ba g y i;show{t,by rw[e];show ol _ b,q}
def wE{e:Type}{a:List e}{j:Nat}{t t' u:e}(g:a[j]?=some t)(h:u∈a):u∈a.set j t'\/u=t:=by
 obtain⟨k,b⟩:=iq.mp h
 by_cases q:j=k
 ·rw[q,b]at g;show .inr (mu g)
 ·show .inl (g_ (i:=k) (by rw[oD q];show b))
def Gj{e:Type}{a:List e}{j:Nat}{t g:e}(h:a[j]?=some t):g∈a.set j g:=g_ (i:=j) (by rw[w_ (d_.mp h).1])
theorem jX.set(h:jX K H M D B c){j:Nat}{t m:du}{q:xE}{v:xI}(r:M.trs[j]?=some t)(e:f.trs=M.trs.set j m)(h1:m.nm=t.nm)(h2:m.rule=t.rule)(h3:m.shuts=t.shuts)(y:q 1=D 1)(A:∀x,aX (q 2) (.inr x)≠none->(x=t.nm/\m.pau=true)\/(aX (D 2) (.inr x)≠none/\(x=t.nm->t.pau=true->m.pau=true)))(hc:∀x,aX (q 4) (.inr x)≠none->(x=t.nm/\m.clo=true)\/(aX (D 4) (.inr x)≠none/\(x=t.nm->t.clo=true->m.clo=true)))(C:∀g x,aX v [.inr g,.inr x]≠none->(x=t.nm/\g∈m.bar)\/(aX B [.inr g,.inr x]≠none/\(x=t.nm->g∈t.bar->g∈m.bar)))(E:(∀i,(q i).length<=c+1)/\v.length<=c+1):jX K H f q v (c+1):=by
 have own:m∈f.trs:=by rw[e];show Gj r
 show{λu o=>?_,λx s=>?_,λx s=>?_,λg x s=>?_,E}
 ·rw[y];rw[e]at o;rcases pw o with z|z
  ·show h.ru u z
  ·rw[z,h1,h2,h3];show h.ru t (g_ r)
 ·rcases A x s with⟨b,k⟩|⟨b,k⟩
  ·show{m,own,h1.trans b.symm,k}
  ·obtain⟨u,o,n,p⟩:=h.pa x b;rcases wE (t':=m) r o with z|z
   ·show{u,by rw[e];show z,n,p}
   ·show{m,own,h1.trans (z▸n),k (z▸n.symm) (z▸p)}
 ·rcases hc x s with⟨b,k⟩|⟨b,k⟩
  ·show{m,own,h1.trans b.symm,k}
  ·obtain⟨u,o,n,p⟩:=h.cl x b;rcases wE (t':=m) r o with z|z
   ·show{u,by rw[e];show z,n,p}
   ·show{m,own,h1.trans (z▸n),k (z▸n.symm) (z▸p)}
 ·rcases C g x s with⟨b,k⟩|⟨b,k⟩
  ·show{m,own,h1.trans b.symm,k}
  ·obtain⟨u,o,n,p⟩:=h.ba g x b;rcases wE (t':=m) r o with z|z
   ·show{u,by rw[e];show z,n,p}
   ·show{m,own,h1.trans (z▸n),k (z▸n.symm) (z▸p)}
def CB{bs:OL}{g:Str}:g∈ee bs g:=by
 unfold ee
 split
 ·assumption
 ·show ot _ mo
def An{bs:OL}{g x:Str}(h:x∈bs):x∈ee bs g:=by
 unfold ee
 split
 ·show h
 ·show ol _ h
def DE{L:List (bK×V)}{k x:Str}{v:V}(h:aX (cL L (.inr k) v) (.inr x)≠none):x=k\/aX L (.inr x)≠none:=by
 rw[oO]at h
 by_cases e:x=k
 ·show .inl e
 ·rw[iA λz=>e (p5 z)]at h;show .inr h
end
inductive F1(K:OF)(vs:List V)(H:Hp)(Q:VK)(_E:XK):Prop|mk(N:Nat->Addr)(D:xE)(B:xI)(M M':bq)(c:Nat)(dv:Addr)(xs:List V)(_:vs=[.ref (N 0),.ref dv])(_:sI H N D B)(_:jX K H M D B c)(_:c<=63)(_:aS K H dv xs)(_:mI K H M M' xs)(_:∀(D':xE)(B':xI)(H':Hp),wx N H H'->sI H' N D' B'->jX K H' M' D' B' (c+1)->Q .non H')
inductive JN(K:OF)(N:Nat->Addr)(H:Hp)(B:xI)(M':bq)(c:Nat)(σ0 σ:St)(H':Hp):Prop|mk(D':xE)(f:wx N H H')(hN:sI H' N D' B)(hO:jX K H' M' D' B (c+1))(e:σ=σ0):JN K N H B M' c σ0 σ H'
section
def BW(T:Txt K mg a):aT P w K mg base d0 1 a.qQ.x a.qQ.d ["_law_notes","_law_deed_here"] (F1 K):=by
 show T.qQ.ok BM λal A outer s H vs Q E R h=>?_
 ·obtain⟨N,D,B,M,M',c,dv,xs,rfl,hN,I,hc,p,hD,q⟩:=h;show{_,(ah (aK (aC aQ (cA K (Y 1) af) av (aE _)) (ai (gP (aO (O (cA K (Y 1) af) (O (cA K (Y 1) af) ae))) (i9 (cF (bv R) (Y 0) av (λ_ _=>())) (cA K (Y 1) af) (lQ (bv R))))) aD) (ah (aK (aC (mi K ()) (cA K (Y 1) af) (bf (O av (O av (O av ae)))) (by with_unfolding_all rfl)) (ah (gP dU (i9 (cF (bv R) (Y 0) (cA K (Y 1) af) (λ_ _=>())) (cA K (Y 1) af) (lQ (bv R)))) (ai (aK (PW.pt (jM (aC aQ (cA K (Y 1) af) av (aE _)) (iH (i7 (ou (bv R) (cA K (Y 1) af) (cF (bv R) (Y 0) av (λ_ _=>()))) ())))) (ai (aY (tV (cF (bv R) (Y 0) av (λ_ _=>())) (cA K (Y 1) af) {(),(),(),()}))) aD))) aD) (ai (aK (aC aQ (cA K (Y 1) af) av (aE _)) (ai (Gq (bv R) (cF (bv R) (Y 0) av (λ_ _=>())) (aO (O (cA K (Y 1) af) (O (cA K (Y 1) af) ae))) dU ())) aD)))),?_}
  cases hD with
 |@trial x ar ra sh h1 h2 h3 e _=>show U () (rX p (aj (k:=0) ()) {(),U () (aZ ?_)});show U () (rX p (aj (k:=4) ()) (U () (rX p (aj (k:=5) ()) {ls (),λs hs=>?_})));show fM hs λJ n Z=>?_;have m:=hN.same n;have l1:=I.ln.1 1;show U () {N 0,.ref (N 1),(),m.get (.inl {(),()}),U () (rX (ao.tseq n p) (aj (k:=1) ()) {N 1,D 1,.inr x.nm,(),(),m.d (by decide) (by decide),by rw[ji];lia,?_})};have f2:wx N J (aH J (N 1) (.dK (cL (D 1) (.inr x.nm) (.ref s)))):=.upd (by decide);have f:=m.putD (i:=1) (L:=cL (D 1) (.inr x.nm) (.ref s)) (by decide) (by decide);have kp:=f2.kp m;generalize aH J (N 1) (.dK (cL (D 1) (.inr x.nm) (.ref s)))=S at f2 f kp⊢;have C:Kp H S:={λu xs e=>kp.1 _ _ (n _ _ e),λu o e=>kp.2 _ _ ((Kp.of n).2 _ _ e)};have F:=C.tq p;show nR (U () (rX F (aj (k:=0) ()) {ls (),λl hl=>?_}));show fM hl λH3 s3 e3=>?_;show{l,U () {.inl (aW.of e3),(),(),U () ?_}};rw[show lz (.str "trial") [.str "pause",.str "go",.str "close"]=false by decide+kernel];show bV (U () (rX (ao.tseq s3 F) (aj (k:=0) ()) {(),U () (wn ?_)}));show q _ _ H3 (((wx.of n).trans f2).trans (.of s3)) (f.same s3) (((I.kp C).trial (kp.tq (aS.of Z)) (h1.kp C) (C.tq h2) h3 e).kp (.of s3))|@mark k t t' j hj hm e _=>
   have hk:k≠"trial"/\k≠"bar"/\lz (.str k) [.str "pause",.str "go",.str "close"]=true:=by cases hm<;>show{dk (),dk (),dk ()}
   show U () (rX p (aj (k:=0) ()) {(),U () (eS hk.1 (nR ?_))});show LJ (JN K N H B M' c [some (.ref (N 0)),some (.ref dv)]) ?_ λNn hJ=>?_
   ·rintro σ H3⟨D',f3,aa,ad,rfl⟩;show U () (rX ((f3.kp hN).tq p) (aj (k:=0) ()) {(),U () (eS hk.2.1 (q D' B H3 f3 aa ad))})
   show U () (rX p (aj (k:=0) ()) {ls (),λl hl=>?_});show fM hl λJ n Z=>?_;have m:=hN.same n;have G:=ao.tseq n p;show{l,U () {.inl (aW.of Z),(),(),U () ?_}};rw[hk.2.2];obtain⟨i,hi,i0,i5⟩:∃i,(k="rules"/\i=1\/k="pause"/\i=2\/k="go"/\i=3\/k="close"/\i=4\/k="bar"/\i=5)/\1<i/\i<5:=by cases hm with|pause=>show{2,.inr (.inl {(),()}),by decide,by decide}|go=>show{3,.inr (.inr (.inl {(),()})),by decide,by decide}|close=>show{4,.inr (.inr (.inr (.inl {(),()}))),by decide,by decide}
   have l1:=I.ln.1 i;show bh (U () (U () (rX G (aj (k:=0) ()) {N 0,.ref (N i),(),m.get hi,U () (rX G (aj (k:=1) ()) {N i,D i,.inr t.nm,(),(),m.d (NA i0) i5,by rw[ji];lia,?_})})));have f2:wx N J (aH J (N i) (.dK (cL (D i) (.inr t.nm) (.bl true)))):=.upd (t_ i5);have f:=m.putD (i:=i) (L:=cL (D i) (.inr t.nm) (.bl true)) (NA i0) i5;have kp:=f2.kp m;generalize aH J (N i) (.dK (cL (D i) (.inr t.nm) (.bl true)))=S at f2 f kp⊢;have C:Kp H S:={λu xs e=>kp.1 _ _ (n _ _ e),λu o e=>kp.2 _ _ ((Kp.of n).2 _ _ e)};have F:=C.tq p;have V:=I.kp C;have W:=(wx.of n).trans f2;have pl:=yf (i:=i) (x:=t.nm) (v:=.bl true) I.ln.1;have bl:=p6 I.ln.2;have X:∀g x,aX B [.inr g,.inr x]≠none->(x=t.nm/\g∈t'.bar)\/(aX B [.inr g,.inr x]≠none/\(x=t.nm->g∈t.bar->g∈t'.bar)):=λg x z=>.inr {z,λ_ z=>by cases hm<;>show z};show U () (rX F (aj (k:=0) ()) {(),U () ?_});cases hm with
   |pause=>
    obtain rfl:i=2:=by rcases hi with⟨z,_⟩|⟨_,z⟩|⟨z,_⟩|⟨z,_⟩|⟨z,_⟩<;>first|show z|show absurd z (dk ())
    show wn (hJ _ _ {_,W,f,V.set hj e () () () () (λx b=>(DE b).imp (λz=>{z,()}) λz=>{z,λ_ _=>()}) (λx b=>.inr {b,λ_ z=>z}) X (pl,bl,),()})|close=>
    obtain rfl:i=4:=by rcases hi with⟨z,_⟩|⟨z,_⟩|⟨z,_⟩|⟨_,z⟩|⟨z,_⟩<;>first|show z|show absurd z (dk ())
    show wn (hJ _ _ {_,W,f,V.set hj e () () () () (λx b=>.inr {b,λ_ z=>z}) (λx b=>(DE b).imp (λz=>{z,()}) λz=>{z,λ_ _=>()}) X (pl,bl,),()})|go=>
    obtain rfl:i=3:=by rcases hi with⟨z,_⟩|⟨z,_⟩|⟨_,z⟩|⟨z,_⟩|⟨z,_⟩<;>first|show z|show absurd z (dk ())
    have h2:S (N 2)=some (.dK (D 2)):=f.d (i:=2) (by decide) (by decide);have g2:=f.get (k:="pause") (i:=2) (.inr (.inl {(),()}));show aZ (U () (rX F (aj (k:=1) ()) (U () {N 0,.ref (N 2),(),g2,rG _ (dq.k (k:=.inr t.nm) h2) (U () (sk (λey=>?_) (λen=>?_)))})))
    ·obtain⟨v,hv⟩:=z3.mp ey;show U () {N 0,.ref (N 2),(),g2,N 2,(),.inl {_,.inl h2},U () (rX F (aj (k:=1) ()) {D 2,.inr t.nm,v,h2,(),hv,?_})};have f3:wx N S (aH S (N 2) (.dK (dy (D 2) (.inr t.nm)))):=.upd (by decide);have aa:=f.putD (i:=2) (L:=dy (D 2) (.inr t.nm)) (by decide) (by decide);show hJ _ _ {_,W.trans f3,aa,((V.kp (f3.kp f)).set hj e () () () () (λx b=>?_) (λx b=>.inr {b,λ_ z=>z}) X {λj=>?_,bl}),()}
     ·have b:aX (dy (D 2) (.inr t.nm)) (.inr x)≠none:=b;rw[vq]at b
      by_cases z:x=t.nm
      ·rw[i_ (by rw[z])]at b;show absurd () b
      ·rw[iA λy=>z (p5 y)]at b;show .inr {b,λy=>absurd y z}
     ·by_cases z:j=2
      ·rw[z];show lm (uo _ _) (p6 (I.ln.1 2))
      ·rw[show tQ (tQ D 3 _) 2 _ j=tQ D 3 _ j from iA z];show pl j
    ·show hJ _ _ {_,W,f,V.set hj e () () () () (λx b=>.inr {b,λz _=>?_}) (λx b=>.inr {b,λ_ z=>z}) X (pl,bl,),()};have b:aX (D 2) (.inr x)≠none:=b;rw[z,Option.isSome_eq_false_iff.mp en|>Option.isNone_iff_eq_none.mp]at b;show absurd () b
  |@bar g t j hj e _=>
   show U () (rX p (aj (k:=0) ()) {(),U () (wn ?_)});show U () (rX p (aj (k:=0) ()) {ls (),λl hl=>?_});show fM hl λJ n Z=>?_;have m:=hN.same n;have G:=ao.tseq n p;show{l,U () {.inl (aW.of Z),(),(),U () ?_}};rw[show lz (.str "bar") [.str "pause",.str "go",.str "close"]=false by decide+kernel];show bV (U () (rX G (aj (k:=0) ()) {(),U () (aZ ?_)}));show U () {N 0,.ref (N 5),(),m.get (.inr (.inr (.inr (.inr {(),()})))),U () (rX G (aj (k:=1) ()) (U () (rX G (aj (k:=2) ()) {ls (),λs hs=>?_})))};show fM hs λS s2 e2=>?_;have f:=m.same s2;have ac:=n.trans s2;have l1:=I.ln.2;show{N 5,U () {zh.t (k:=[.inr g,.inr t.nm]) (f.at_ 5 (by decide)) e2 (by rw[ji];lia),?_}};have f3:wx N S (aH S (N 5) (.dT (cL B [.inr g,.inr t.nm] (.bl true)))):=.upd (by decide);show q D (cL B [.inr g,.inr t.nm] (.bl true)) _ ((wx.of ac).trans f3) f.putB (((I.kp (.of ac)).kp (f3.kp f)).set hj e () () () () (λx b=>.inr {b,λ_ z=>z}) (λx b=>.inr {b,λ_ z=>z}) (λg' x b=>?_) {λi=>p6 (I.ln.1 i),lm (gi _ _ _) (y_ l1)});rw[oO]at b
   by_cases z:([.inr g',.inr x]:List bK)=[.inr g,.inr t.nm]
   ·injection z with z1 z2;injection z2 with z2 _;rw[p5 z1,p5 z2];show .inl {(),CB}
   ·rw[iA z]at b;show .inr {b,λ_ y=>An y}|@oth k r h1 e _=>obtain⟨h1,h2,h3⟩:=GF h1;show U () (rX p (aj (k:=0) ()) {(),U () (eS h1 ?_)});show U () (rX p (aj (k:=0) ()) {ls (),λl hl=>?_});show fM hl λJ n Z=>?_;show{l,U () {.inl (aW.of Z),(),(),U () ?_}};rw[h2];show bV (U () (rX (ao.tseq n p) (aj (k:=0) ()) {(),U () (eS h3 (q D B J (.of n) (hN.same n) ((I.kp (.of n)).trs e)))}))
end
def JK{z:Str}{c:OL}(h:z∉c):lz (.str z) (c.map V.str)=false:=by cases e:lz (.str z) (c.map V.str)with|false=>rfl|true=>unfold lz at e;obtain⟨v,d,e⟩:=NP.mp e;obtain⟨u,b,rfl⟩:=k_.mp d;have e:(u==z)=true:=e;rw[eq_of_beq e]at b;show absurd b h
def Ho(n:Nat):(List.replicate n false).any id=false:=by induction n with|zero=>rfl|succ n b=>rw[sD,z7,b];rfl
inductive KP(K:OF)(vs:List V)(H:Hp)(Q:VK)(_E:XK):Prop|mk(N:Nat->Addr)(D:xE)(B:xI)(M:bq)(c c':Nat)(g:Str)(t:du)(mv:V)(ms:List (Str×Int))(bl:Addr)(us:List V)(ss:List (Str×Str))(_:vs=[.ref (N 0),.str g,.str t.nm,mv,.ref bl])(_:sI H N D B)(_:jX K H M D B c)(_:j0 M c')(_:t∈M.trs)(_:t.pau=false)(_:t.clo=false)(_:g∉t.bar)(_:lE K H ms mv)(_:t.rule.sat ms=true)(_:H bl=some (.lst us))(_:cz K H us ss)(_:ss.length<=1000)(_:(∀n∈t.shuts,n∉ss.map (·.1)))(_:∀H',ao H H'->Q (.bl true) H')
section
def zI(T:Txt K mg a):aT P w K mg base d0 8 a.nu.x a.nu.d ["_law_notes","_law_guest_here","_law_trial","_law_marks_here","_law_been"] (KP K):=by
 show T.nu.ok oj λbb A outer s H vs Q E o h=>?_
 ·obtain⟨N,D,B,M,c,c',g,t,mv,ms,bl,us,ss,rfl,R,hO,hM,S,hp,as,hb,hm,W,ax,hw,bc,a2,q⟩:=h;show{_,(ah (aK (PW.pt (fb (i7 (ou (bv o) (Y 2) (cF (bv o) (Y 0) av (λ_ _=>()))) ()) (fb (i7 (ou (bv o) (Y 2) (cF (bv o) (Y 0) av (λ_ _=>()))) ()) (dP (i7 (ou (bv o) (aO (O (Y 1) (O (Y 2) ae))) (cF (bv o) (Y 0) av (λ_ _=>()))) ()))))) (ai (az dU)) aD) (ah (gP (cF (bv o) (cF (bv o) (Y 0) av (λ_ _=>())) (Y 2) (λ_ _=>())) (eU K () () (bd (oK 5 oj.nd) (bd (oK 6 oj.nd) eT)))) (ai (az (cy (aP ((vI T 6).mono (by decide)) o () T.cW.m T.cW.f.kp T.cW.b .nil bj (O (Y 5) (O (Y 3) ae))) (cU (wM (aA (nj K () ()) (by rfl) T.AU L2.p7 (O (uu qM ["_law_shut"] [] [7] (am qo) (bW 7) (gC K () (Y 6)) (λcl C s₀ H₀ ex=>{(lF qM ["_law_shut"] 7),bR,(bL (mi K ()) (Y 7) (uu (ok:=by rfl) ["_law_notes","_law_guest_here","_law_trial","_law_marks_here","_law_been","_law_rule_here","_law_shuts","_law_shut"] ["_law_one"] [] [8] (relabel _ _) (bW 8) (c5 K () (Y 4)) (λcl C s₀ H₀ ex=>{(lF ["_law_notes","_law_guest_here","_law_trial","_law_marks_here","_law_been","_law_rule_here","_law_shuts","_law_shut"] ["_law_one"] 8),bR,(cA K (Y 8) af)})) (by with_unfolding_all rfl))})) ae))))))))),?_}
  have X:=hM.tr t S;have h8:=X.s8;have p0:aX (D 2) (.inr t.nm)=none:=Nw λz=>by obtain⟨u,Z,G,F⟩:=hO.pa _ z;rw[hM.tuniq Z S G,hp]at F;cases F
  have c0:aX (D 4) (.inr t.nm)=none:=Nw λz=>by obtain⟨u,Z,G,F⟩:=hO.cl _ z;rw[hM.tuniq Z S G,as]at F;cases F
  have b0:aX B [.inr g,.inr t.nm]=none:=Nw λz=>by obtain⟨u,Z,G,F⟩:=hO.ba g _ z;rw[hM.tuniq Z S G]at F;show hb F
  show U () (U () {N 0,.ref (N 2),(),R.get (k:="pause") (.inr (.inl {(),()})),rG none (by rw[<-p0];show dq.k (k:=.inr t.nm) (R.d (i:=2) (by decide) (by decide))) (U () (bV ?_))});show U () (U () {N 0,.ref (N 4),(),R.get (k:="close") (.inr (.inr (.inr (.inl {(),()})))),rG none (by rw[<-c0];show dq.k (k:=.inr t.nm) (R.d (i:=4) (by decide) (by decide))) (U () (bV ?_))});show U () (U () {ls (),λT1 a3=>?_});show fM a3 λH1 L G=>?_;have p:=R.same L;show U () {N 0,.ref (N 5),(),p.get (k:="bar") (.inr (.inr (.inr (.inr {(),()})))),rG none (by rw[<-b0];show dq.t (k:=[.inr g,.inr t.nm]) (p.at_ 5 (by decide)) G) (U () (bV ?_))};obtain⟨s,sh,rv,r1,r2,r3,r4⟩:=(hO.kp (.of L)).ru t S;show U () {N 0,.ref (N 1),(),p.get (k:="rules") (.inl {(),()}),U () (rG (.ref s) (by rw[<-r1];show dq.k (k:=.inr t.nm) (p.d (i:=1) (by decide) (by decide))) {s,U () {r2,(),_,U () (au {_,U () (au {(),?_})})}})};show U () (U () {t.rule,rv,ms,mv,(),r3,X.hg,hm.kp (.of L),λH2 s2=>(U () ?_)});rw[W];show bh ?_;have aa:=s2 _ _ (L _ _ ax);have a5:=(hw.kp (.of L)).kp (.of s2);have ac:=ao.tseq s2 r4;have a6:us.length=ss.length:=Paired.length hw;show U () {sh,(),{_,ac},λD2 ad=>?_};show gK (K:=K) (a:=sh) (xs:=t.shuts.map V.str) (λj l H'=>ao H2 H'/\H' D2=some (.lst l)/\l=(List.replicate j false).map V.bl) {ak (ao.refl _) ad,ag,()} (λj l H' _ h=>ao.tseq h.1 ac) ?_ ?_
  ·rintro j v l H6 I⟨s6,J,rfl⟩;have hj:j<(t.shuts.map V.str).length:=(d_.mp I).1;rw[ig]at I;obtain⟨n,hn,rfl⟩:=Option.map_eq_some_iff.mp I;have al:=s6 _ _ aa;show au (iy (bh (U () (U () {bl,(),{_,aW.of al},λD3 an=>?_}))));show gj (K:=K) (a:=bl) (xs:=us) (λm e H'=>ao H6 H'/\H' D3=some (.lst e)/\e=(ss.take m).map λy=>V.str y.1) {ak (ao.refl _) an,ag,()} (λm e H' _ h=>aW.of (h.1 _ _ al)) ?_ ?_
   ·rintro m v e H7 ap⟨s7,r,rfl⟩;have hm:m<us.length:=(d_.mp ap).1;obtain⟨z,hz,s',rfl,a7⟩:=Paired.at_ (a5.kp (.of s6)) m v ap;have bi:=E_ m ss;show au (iy (bh (U () (rX (ao.tseq s7 a7) (aj (k:=0) ()) {r,by rw[b_,ji];lia,lf hm {bu s7 an,ag,by rw[cg hz,ir];rfl}}))))
   ·rintro e H7⟨s7,r,ea⟩;rw[a6,ku (e_ _)]at ea;have eb:e=(ss.map (·.1)).map V.str:=by rw[ea,s_];rfl
    rw[eb]at r;have a8:=a2 n (g_ hn);rw[b_]at hj;show{D3,U () {.inl (aW.of r),(),mQ _,s7 _ _ J,by rw[b_,MN,ji];lia,lf (by rw[b_];show hj) {bu (s6.trans s7) ad,ag,?_}}};change _++[V.bl (lz _ _)]=_;rw[JK a8,List.replicate_succ',ir];rfl
  ·rintro l H6⟨s6,J,rfl⟩;show{D2,U () {aW.of J,U () ?_}};rw[Ho];show q H6 ((L.trans s2).trans s6)
end
def IsPs.sm{X:Cx}{i:OH}{n:St}{s:Shared}{A:Around}(I:aN X i n H s)(o:A.units<cLine){ds:List (List Str)}:∀{l m:List V}{c g:OJ},IsPs X.K H l (ds.map lM)->IsPs X.K H m (ds.map lM)->be l c->be m g->c.length=g.length/\∀j(h1:j<c.length)(h2:j<g.length),SeqAt.EqAt A s c[j] g[j] true:=by induction ds with|nil=>intro l m c g h1 h2 b r2;cases h1;cases h2;cases b;cases r2;show{(),λj h=>absurd h (Np _)}|cons d ds k=>intro l m c g h1 h2 b r2;cases h1 with|cons a1 b1=>cases h2 with|cons p b2=>cases b with|cons q r=>cases r2 with|cons t u=>obtain⟨e,f⟩:=k b1 b2 r u;show{r_ Nat.succ e,λj h1 h2=>?_};cases j with|zero=>obtain⟨_,v⟩:=a1.reads I q;obtain⟨_,x⟩:=p.reads I t;have:=CM (A:=A) v x o;rw[show PyData.eqv (lM d) (lM d)=true from oP d]at this;show this|succ j=>show f j (Nat.lt_of_succ_lt_succ h1) (Nat.lt_of_succ_lt_succ h2)
def rSm(K:OF)(b:Bool):R2:=λx y H Q=>∃(p q:Addr)(c d:List V)(ds:List (List Str)),x=.ref p/\y=.ref q/\aW K H p c/\aW K H q d/\IsPs K H c (ds.map lM)/\IsPs K H d (ds.map lM)/\Q (.bl b) H
def Le{X:Cx}(K:OF)(i:X.K=K)(f:X.A.units+1<cLine):kL X (compareOp .Eq) (rSm K true):=by subst i;intro d s E H x y v u Q I l m h;obtain⟨p,q,F,G,ds,rfl,rfl,h1,h2,n,o,k⟩:=h;cases l;cases m;obtain⟨r,t,pl,_⟩:=I.list h1;obtain⟨g,b,c,_⟩:=I.list h2;obtain⟨z,B⟩:=IsPs.sm (A:=X.A.in1) I f n o t b;show PySem.SeqAt.eq_listAt (e:=λ_=>true) pl.isList c.isList (by simpa using z) (NA f) (λj C D=>by simpa using B j (by simpa using C) (by simpa using D)) {.bl true,H,I,?_,k};change Value.bool _=Value.bool _;rw[Ng.mpr λ_ _=>()]
def DR{X:Cx}(K:OF)(i:X.K=K)(f:X.A.units+1<cLine):kL X (compareOp .NotEq) (rSm K false):=by subst i;intro d s E H x y v u Q I l m h;obtain⟨p,q,F,G,ds,rfl,rfl,h1,h2,n,o,k⟩:=h;cases l;cases m;obtain⟨r,t,pl,_⟩:=I.list h1;obtain⟨g,b,c,_⟩:=I.list h2;obtain⟨z,B⟩:=IsPs.sm (A:=X.A.in1) I f n o t b;show PySem.SeqAt.RcNeAt.lists (e:=λ_=>true) pl.isList c.isList (by simpa using z) (NA f) (λj C D=>by simpa using B j (by simpa using C) (by simpa using D)) _ _ _ _ {.bl false,H,I,?_,k};change Value.bool _=Value.bool _;rw[Ng.mpr λ_ _=>()];rfl
def oW(y:Str×Str×Str):List Str:=[y.1,y.2.1,y.2.2]
def BK{x y:Str×Str×Str}(h:oW x=oW y):x=y:=by obtain⟨b,c,d⟩:=x;obtain⟨e,f,g⟩:=y;simp only[oW,OC,and_true]at h;obtain⟨rfl,rfl,rfl⟩:=h;rfl
def xV{y:Str×Str×Str}{c:List (Str×Str×Str)}:oW y∈c.map oW↔y∈c:={λh=>by obtain⟨z,b,e⟩:=k_.mp h;rw[<-BK e];show b,λh=>k_.mpr {y,h,()}}
def fF.data(h:fF K H c e):IsPs K H c ((e.map oW).map lM):=by induction h with|nil=>show .nil|cons h _ d=>obtain⟨b,rfl,h⟩:=h;show .cons (.tup h (.cons (.str _) (.cons (.str _) (.cons (.str _) .nil)))) d
def Gk{b:Addr}{y:Str×Str×Str}(h:aS K H b [.str y.1,.str y.2.1,.str y.2.2]):Au K H (.ref b) (lM (oW y)):=.tup h (.cons (.str _) (.cons (.str _) (.cons (.str _) .nil)))
def By{M:bq}{g:Str}:(iW M g).length<=M.las.length:=K_ _ _
def cz.data{c:List V}{e:List (Str×Str)}(h:cz K H c e):IsPs K H c ((e.map λy=>[y.1,y.2]).map lM):=by induction h with|nil=>show .nil|cons h _ b=>obtain⟨s,rfl,d⟩:=h;show .cons (.tup d (.cons (.str _) (.cons (.str _) .nil))) b
def Gs{c e:Type}{R:c->e->Prop}{l:List c}{m:List e}(h:Paired R l m):∀n,Paired R (l.take n) (m.take n):=by induction h with|nil=>intro n;rw[Ob,Ob];show .nil|cons h r b=>intro n;cases n with|zero=>show .nil|succ n=>show .cons h (b n)
def Gu{c e:Type}{R:c->e->Prop}{l:List c}{m:List e}(h:Paired R l m):∀n,Paired R (l.drop n) (m.drop n):=by induction h with|nil=>intro n;rw[List.drop_nil,List.drop_nil];show .nil|cons h r b=>intro n;cases n with|zero=>show .cons h r|succ n=>show b n
section
variable{M o:bq}{g:Str}{m:List (Str×Int)}{a:List (Str×Str×Str)}
def vz(h:Bj M g m M.las a)(v:iw g a M o):iW o g=a:=by
 show Eq.trans ?_ h.all;unfold iW;rw[v.las,Nu];have d:∀f:cb->Option (Str×Str×Str),M.las.filterMap f=(M.las.map f).filterMap id:=λf=>by rw[Nu];rfl
 rw[d,d];show r_ _ (E2 λl j=>?_);change Option.map _ (cC (qD g a l) g)=_;have e:cC (qD g a l) g=wG a l.nm:=by cases b:cC l g with|some r=>rw[my (by unfold sx;rw[b];rfl),h.seat l j (by rw[b];show nofun),b]|none=>cases i:wG a l.nm with|none=>rw[my (by unfold sx;rw[b,i];rfl),b]|some r=>
    have k:qD g a l={l with ins:=l.ins++[(g,r)]}:=by unfold qD sx;rw[b,i];rfl
    rw[k];unfold cC at b⊢;rw[ND,Option.map_eq_none_iff.mp b,rk (by simp)];rfl
 rw[e];rfl
def Bv(f:Bj M g m M.las a)(hn:(M.las.map cb.nm).Nodup){r:Str×Str×Str}(s:r∈a):r∈iW M g↔m7 M g r.1=true:=by
 obtain⟨j,t⟩:=iq.mp s;obtain⟨l,n,d,u⟩:=f.at_ j r t;obtain⟨i,hi⟩:=iq.mp n;rw[d,oE hn hi];unfold iW;rw[List.mem_filterMap]
 constructor
 ·rintro⟨x,k,e⟩;obtain⟨p,v,e⟩:=Option.map_eq_some_iff.mp e;obtain⟨y,b⟩:=iq.mp k;have q:=pT hn b hi (by rw[<-d,<-e]);rw[q,hi]at b;rw[mu b,v];rfl
 ·intro h;rcases u with e|⟨e,_⟩
  ·show{l,n,by rw[e,<-show(l.nm,r.2.1,r.2.2)=r by rw[<-d]];rfl}
  ·rw[e]at h;cases h
def B0(f:Bj M g m M.las a)(hn:(M.las.map cb.nm).Nodup){r:Str×Str}(h:r∈cu M g a):∃l∈M.las,∃t y bs,r=(t.nm,y)/\Kj M l g m bs t y/\∀n∈(cP M.came g).map (·.1),n∈bs:=by
 obtain⟨x,k,e⟩:=List.mem_filterMap.mp h;obtain⟨j,p⟩:=iq.mp k;obtain⟨l,d,s,u⟩:=f.at_ j x p;obtain⟨i,hi⟩:=iq.mp d;rw[s,oE hn hi]at e;rcases u with q|⟨q,t,y,v,b⟩
 ·rw[q]at e;cases e
 ·rw[q]at e;have e:x.2=r:=mu e;show{l,d,t,y,_,e.symm.trans v,b,λn hn=>ol _ hn}
end
def Fh{cm:List (Str×List (Str×Str))}{g:Str}{n:Nat}(h:∀x∈cm,x.2.length<=n):(cP cm g).length<=n:=by unfold cP;cases e:cm.find? λx=>decide (x.1=g)with|none=>show np _|some x=>show h x (List.mem_of_find?_eq_some e)
inductive JR(H3:Hp)(f:Option V->Option V->St)(σ:St)(H':Hp):Prop|mk(v8 v9:Option V)(s:ao H3 H')(e:σ=f v8 v9):JR H3 f σ H'
inductive FV(P:OK)(w:World)(K:OF)(a:f8)(vs:List V)(H:Hp)(Q:VK)(_E:XK):Prop|mk(M M':bq)(Z:ZS)(c c0 c1:Nat)(N:Nat->Addr)(D:xE)(B:xI)(dv st bl:Addr)(g:Str)(mv:V)(ms:List (Str×Int))(ss:List (Str×Str×Str))(us us1:List V)(_:vs=[.ref (Z.G .hh),.ref (N 0),.ref dv,.ref st,.ref bl])(_:dn P w K a H M' Z c)(_:c<=64)(_:j0 M c0)(_:jm M)(_:sI H N D B)(_:jX K H M' D B c1)(_:aS K H dv [.str "visit",.str g,mv])(_:uP g)(_:lE K H ms mv)(_:qd M g ms M.las ss)(_:iw g ss M M')(_:H st=some (.lst us1))(_:fF K H us1 (iW M g))(_:H bl=some (.lst us))(_:cz K H us (cP M.came g))(_:∀H',ao H H'->Q (.bl true) H')
section
def r6(T:Txt K mg a):aT P w K mg base d0 10 a.fG.x a.fG.d ["_law_house","_law_notes","_law_deed_here","_law_stood","_law_been"] (FV P w K a):=by
 show T.fG.ok cO λc2 A outer s H vs Q E L h=>?_
 ·obtain⟨M,M',Z,c,c0,c1,N,D,B,dv,st,bl,g,mv,ms,ss,S,bt,rfl,V,hc,hM,hC,hN,hO,hT,hg,hm,hA,hv,bz,bQ,o,hw,q⟩:=h;show{_,(ah (bn 5 cO.nd (cA K (Y 2) af)) (ah (bn 6 cO.nd (bw (Y 0) T.aF T.db.m ((jR (P:=P) (w:=w) T).mono (by decide)) L T.db.b .nil bj (O (Y 5) ae))) (ah (aK (aC (DR K () (bv L)) (fc (lO K ()) (Y 6) gB (gA (aA (aI K ()) (by rfl) T.bE L2.aJ (O (Y 4) ae)))) (Y 4) (aE _)) (ai (az dU)) aD) (ah (bn 7 cO.nd (fc (lO K ()) (Y 6) (gA (aA (aI K ()) (by rfl) T.bE L2.aJ (O (Y 4) ae))) gB)) (ah (eO o0 () (c5 K () (Y 7)) (eU K () () (bd (oK 8 cO.nd) (bd (oK 9 cO.nd) eT))) (ai (aK (cx (aR K () (pc T.nu (zI T) L (O (Y 1) (O (Y 5) (O (Y 8) (O (cA K (Y 2) af) (O (Y 4) ae)))))) (λ_=>()))) (ai (az dU)) aD))) (ah (Ai 10 fu ["_law_layer"] [8,9] [11,8,9] (am i3) (ES _ 11 8 9) (c5 K () (bw (Y 0) T.aF T.dF.m ((ml (P:=P) (w:=w) T).mono (by decide)) L T.dF.b .nil bj (O (Y 5) ae))) (λcl C s₀ H₀ ex=>{(eU K () () (bd (lF fu ["_law_layer"] 11) (bd (lF fu ["_law_layer"] 8) (bd (lF fu ["_law_layer"] 9) eT)))),(pD (aC (DS K () (Mo L)) (aO (O (Y 11) (O (Y 8) (O (Y 9) ae)))) (Y 3) (by with_unfolding_all rfl))),(aO (O (Y 8) (O (Y 9) ae)))}) cO.nd) (ai (az (bL (Le K () (bv L)) (Y 7) (Y 10) (aE _)))))))))),?_}
  have p:=hA.ok hM.ln;have b0:(cP M'.came g).length<=10*c:=Fh V.ok.cm;have F:S.length=(cP M.came g).length:=Paired.length hw;rw[hv.came,j1]at b0;show U () (rX hT (aj (k:=1) ()) (au ?_));show nM V.g.house () () (U () {M',Z,c,g,(),V,by lia,hg,λr W H1 s1 L as X=>au ?_});rw[hv.came]at X;have ax:=ao.tseq s1 hT;have wp:=Gs X S.length;have wd:=Gu X S.length;rw[F,List.take_left' ()]at wp;rw[F,List.drop_left' ()]at wd;show U () (U () {.ref bl,S.length,(),.inl {_,aW.of (s1 _ _ o),()},U () {r,W,(),aW.of as,λp1 b8=>?_}});rw[xi _ (kl _),pu];show fM b8 λH2 s2 e2=>?_;rw[F]at e2;have I:=s1.trans s2;show U () {p1,bl,_,S,(cP M.came g).map λy=>[y.1,y.2],(),(),aW.of e2,aW.of (I _ _ o),cz.data (cz.kp (.of s2) wp),cz.data (hw.kp (.of I)),U () (bV ?_)};show U () (U () {.ref bl,S.length,(),.inl {_,aW.of (I _ _ o),()},U () {r,W,(),aW.of (s2 _ _ as),λp2 b9=>?_}});rw[yV _ (kl _),pu];show fM b9 λH3 s3 e3=>au ?_;rw[F]at e3;have aa:=I.trans s3;have ad:cz K H3 _ (cu M g ss):=(cz.kp (.of s2) wd).kp (.of s3);generalize W.drop (cP M.came g).length=cs at e3 ad;show U () {p2,(),{_,aW.of e3},?_};show kG (K:=K) (a:=p2) (xs:=cs) (λ_=>JR H3 λv8 v9=>[some (.ref (Z.G .hh)),some (.ref (N 0)),some (.ref dv),some (.ref st),some (.ref bl),some (.str g),some (.ref r),some (.ref p2),v8,v9,none]) {_,_,ao.refl _,()} (λk σ H' _ h=>by obtain⟨_,_,s,_⟩:=h;show aW.of (s _ _ e3)) ?_ ?_
  ·rintro k v σ H4 hk⟨v8,v9,s4,rfl⟩Nn R Bb hJ;obtain⟨⟨x,y0⟩,hx,b,rfl,hb⟩:=Paired.at_ (ad.kp (.of s4)) k v hk;obtain⟨l,hl,t,y,bs,er,i,cc⟩:=B0 p hM.ln (g_ hx);obtain⟨rfl,rfl⟩:=Nj er;have f:=aa.trans s4;have a2:t.clo=false:=by cases e:t.clo with|false=>rfl|true=>have:=i.at_;rw[hC t i.mem e l hl i.home.symm _ i.arm]at this;cases this
   show{b,U () {hb,(),_,U () (au {_,U () (au {(),?_})})}};show U () (U () (U () (U () (rX (ao.tseq f hT) (aj (k:=2) ()) (U () {N,D,B,M',c1,c,g,t,mv,ms,bl,S,cP M.came g,(),hN.same f,hO.kp (.of f),V.ok,by rw[hv.trs];show i.mem,i.pau,a2,i.bar,hm.kp (.of f),i.sat,f _ _ o,hw.kp (.of f),by lia,λn hn z=>i.shut n hn (cc n z),λH5 s5=>(U () (bV (hJ _ _ {_,_,s4.trans s5,()})))})))))
  ·rintro σ H4⟨v8,v9,s4,rfl⟩;have f:=aa.trans s4;show nM (f _ _ V.g.house) () () (U () {M',Z,c,g,(),V.same f,hg,λr2 a3 H5 s5 c3 a5 al=>?_});rw[vz p hv]at al;have ci:=f.trans s5;have cK:ss.length<=4:=by rw[<-vz p hv];show lm By V.ok.l4
   show{r2,(),{_,aW.of a5},λD5 a6=>?_};show gj (K:=K) (a:=r2) (xs:=a3) (λk J H'=>ao H5 H'/\H' D5=some (.lst J)/\cz K H' J (cu M g (ss.take k))) {ak (ao.refl _) a6,ag,.nil} (λk J H' _ h=>aW.of (h.1 _ _ a5)) ?_ ?_
   ·rintro k u J H6 hu⟨s6,an,j⟩;have hk:k<a3.length:=(d_.mp hu).1;obtain⟨y,hy,b,rfl,hb⟩:=Paired.at_ (al.kp (.of s6)) k u hu;have c4:J.length<=4:=by rw[Paired.length j];show lm (K_ _ _) (lm (N9 _ _) cK)
    show{b,U () {hb,(),_,U () (au {_,U () (au {_,U () (au {(),(U () (U () (U () {ls (),λT1 ax=>?_})))})})})}};show fM ax λH7 s7 e7=>?_;have a7:=(ci.trans s6).trans s7;show U () {st,bt,oW y,(iW M g).map oW,(),aW.of (a7 _ _ bz),Gk (aS.of e7),(bQ.kp (.of a7)).data,U () ?_};have a8:=Bv p hM.ln (g_ hy);have bb:cu M g (ss.take (k+1))=cu M g (ss.take k)++if m7 M g y.1=true then[]else[y.2]:=by rw[cg hy];show vJ ()
    have bc:=s7 _ _ an
    by_cases hs:y∈iW M g
    ·rw[m_ (xV.mpr hs)];show bV (lf hk {s6.trans s7,bc,by rw[bb,i_ (a8.mp hs),pv];show j.kp (.of s7)})
    ·rw[me λz=>hs (xV.mp z)];show bh (U () (U () {ls (),λT2 cS=>?_}));show fM cS λH8 s8 e8=>?_;have bi:=s8 _ _ bc;have kp:Kp H8 (aH H8 D5 (.lst (J++[.ref T2]))):=.lst bi;show{bi,by rw[ji];lia,lf hk {bu ((s6.trans s7).trans s8) a6,ag,?_}};rw[bb,iA λz=>hs (a8.mpr z)];show tS ((j.kp (.of (s7.trans s8))).kp kp) (.cons {T2,(),kp.tq (aS.of e8)} .nil)
   ·rintro J H6⟨s6,an,j⟩;rw[Paired.length al,ku (e_ _)]at j;have ap:=s4.trans (s5.trans s6);show au (U () (U () {p2,D5,cs,J,(cu M g ss).map λy=>[y.1,y.2],(),(),aW.of (ap _ _ e3),aW.of an,cz.data (ad.kp (.of ap)),cz.data j,q _ (aa.trans ap)}))
end
def AD{e:Type}{c:List e}{x y:e}{i:Nat}(h:(c++[x])[i]?=some y):c[i]?=some y\/(i=c.length/\y=x):=by
 rcases NS i c.length with z|z
 ·show .inl (by rw[<-h];show(t6 z).symm)
 ·rw[G_ z]at h;obtain⟨b,d⟩:=d_.mp h;have b:i-c.length<1:=b;obtain rfl:i=c.length:=by lia
  simp only[Nat.sub_self,List.getElem_cons_zero]at d;show .inr {(),d.symm}
section
variable{ns:OQ}{M a:bq}{d:Dd}
def Dd.na(h:d.adds=false):vP M d=gc M/\sN M d=iG M:=by cases d<;>first|show{(),()}|cases h
def n6.keep(h:n6 ns M)(c:a.p=M.p)(g:a.salt=M.salt)(e:a.las.map (λl=>(l.nm,l.sl))=M.las.map λl=>(l.nm,l.sl))(f:a.trs.map (λt=>(t.nm,t.arms))=M.trs.map λt=>(t.nm,t.arms)):n6 ns a/\a.p=M.p/\a.salt=M.salt/\gc a=gc M/\iG a=iG M:=by
 have a1:∀N:bq,gc N=(N.las.map λl=>(l.nm,l.sl)).map Prod.fst:=λN=>by rw[s_];rfl
 have b:∀N:bq,iG N=(N.trs.map λt=>(t.nm,t.arms)).map λx=>(x.1,x.2.length):=λN=>by rw[s_];rfl
 have k:a.las.length=M.las.length:=by have:=r_ List.length e;rw[b_,b_]at this;show this
 show{{λi l m=>?_,λj t n=>?_,by rw[k,c];show h.lp,by rw[c];show h.pr},c,g,by rw[a1,a1,e],by rw[b,b,f]}
 ·have q:(M.las.map λl=>(l.nm,l.sl))[i]?=some (l.nm,l.sl):=by rw[<-e,ig,m];rfl
  rw[ig]at q;obtain⟨o,h0,q⟩:=Option.map_eq_some_iff.mp q;rw[<-(Nj q).1,<-(Nj q).2,c];show h.ln i o h0
 ·have q:(M.trs.map λt=>(t.nm,t.arms))[j]?=some (t.nm,t.arms):=by rw[<-f,ig,n];rfl
  rw[ig]at q;obtain⟨r,h0,q⟩:=Option.map_eq_some_iff.mp q;rw[<-(Nj q).1,<-(Nj q).2];show h.tn j r h0
def gN.nx(h:n6 ns M)(n:gN M d a)(f:Hy ns M d):n6 ns a/\a.p=M.p/\a.salt=M.salt/\gc a=vP M d/\iG a=sN M d:=by cases n with
 |@layer nm sl=>
  obtain⟨g,k,m⟩:=f;show{{λi l b=>?_,h.tn,?_,h.pr},(),(),ir,()}
  ·rcases AD b with b|⟨rfl,rfl⟩
   ·show h.ln i l b
   ·show(g,k,)
  ·change(M.las++[_]).length<=M.p+1;rw[j1];show m|@trial x=>
  show{{h.ln,λj t e=>?_,h.lp,h.pr},(),(),(),ir};rcases AD e with e|⟨rfl,rfl⟩
  ·show h.tn j t e
  ·show f|share b hh hn=>show h.keep () () (eK b _ ()) ()|deal b hh hn=>show h.keep () () (eK b _ ()) ()|hold b=>show h.keep () () (eK b _ ()) ()|pause c=>show h.keep () () () (eK c _ ())|close c b hh=>show h.keep () () (eK b _ ()) (eK c _ ())|bar c b hh=>show h.keep () () (eK b _ ()) (eK c _ ())|visit o v=>show h.keep v.p v.salt (by rw[v.las,s_];rfl) (by rw[v.trs])
end
structure nA(P:OK)(w:World)(K:OF)(a:f8)(H0 H:Hp)(ns:OQ)(M:bq)(Z:ZS)(A:wu)(c:Nat)(ls:OL)(ts:List (Str×Nat)):Prop where
 z:dn P w K a H M Z c
 pl:p9 K H M.p M.salt ls ts A
 pn:n6 ns M
 f1:¬gL M Z A.pl
 f2:¬gL M Z A.L
 f3:¬gL M Z A.T
 bs:∀b o,H0 b=some o->H b=some o/\¬gL M Z b/\b≠A.L/\b≠A.T
section
variable{P:OK}{w:World}{K:OF}{a:f8}{f H i r:Hp}{M j:bq}{Z u:ZS}{ns:OQ}{A:wu}{x:Addr}{c:Nat}{ls q:OL}{v m:List (Str×Nat)}{d:Dd}
theorem nA.same(h:nA P w K a f H ns M Z A c ls v)(s:ao H i):nA P w K a f i ns M Z A c ls v:={h with z:=h.z.same s,pl:=h.pl.same s,bs:=λb o e=>{s _ _ (h.bs b o e).1,(h.bs b o e).2}}
def nA.dr(h:nA P w K a f H ns M Z A c (gc M) (iG M))(sq:aW K f x (ns.map V.int))(l:ns.length<=63):uN K H x ns M A c:={ao.seq (λb o e=>(h.bs b o e).1) sq,l,h.pl,h.z.ok,h.pn,λi g=>ao.seq (λb o e=>g _ _ (h.bs b o e).1 (h.bs b o e).2.2.1) sq}
def nA.chg(h:nA P w K a f H ns M Z A c ls v)(n:LS A H i)(l:p9 K i M.p M.salt q m A):nA P w K a f i ns M Z A c q m:=by
 obtain⟨o,s,kp,k⟩:=n;rcases s with rfl|rfl
 ·show{h with z:={h.z with g:=h.z.g.out h.f2 kp k},pl:=l,bs:=λb o e=>{k _ _ (h.bs b o e).1 (h.bs b o e).2.2.1,(h.bs b o e).2}}
 ·show{h with z:={h.z with g:=h.z.g.out h.f3 kp k},pl:=l,bs:=λb o e=>{k _ _ (h.bs b o e).1 (h.bs b o e).2.2.2,(h.bs b o e).2}}
def nA.fin(h:nA P w K a f H ns M Z A c (vP M d) (sN M d))(n:gN M d j)(st:gw H M Z r j u)(p:dn P w K a r j u (c+1))(s:Hy ns M d):nA P w K a f r ns j u A (c+1) (gc j) (iG j):=by
 have kp:=h.z.g.stp st;obtain⟨t,y,B,C,D⟩:=n.nx h.pn s;obtain⟨E,k,l⟩:=h.pl.T;show{p,?_,t,st.nf h.pl.pl h.f1,st.nf h.pl.L h.f2,st.nf k h.f3,λb o e=>?_}
 ·rw[y,B,C,D];show{st.fr _ _ h.pl.pl h.f1,st.fr _ _ h.pl.L h.f2,{E,st.fr _ _ k h.f3,CD.kp kp l},h.pl.n1,h.pl.n2,h.pl.n3}
 ·obtain⟨b1,b2,b3⟩:=h.bs b o e;show{st.fr _ _ b1 b2,st.nf b1 b2,b3}
def nA.not(h:nA P w K a f H ns M Z A c (vP M d) (sN M d))(hd:d.adds=false)(s:ao H r):nA P w K a f r ns M Z A (c+1) (gc M) (iG M):=by obtain⟨b,e⟩:=Dd.na (M:=M) hd;rw[b,e]at h;show{h.same s with z:=(h.same s).z.mono (sf c)}
end
structure ww(H0 H:Hp)(M:bq)(Z:ZS)(A:wu)(N:Nat->Addr)(D:xE)(B:xI):Prop where
 h:sI H N D B
 nf:∀i,i<6->¬gL M Z (N i)n1:∀i,i<6->N i≠A.pl/\N i≠A.L/\N i≠A.T
 n0:∀i,i<6->H0 (N i)=none
def Kc(M:bq)(Z:ZS)(A:wu)(N:Nat->Addr)(b:Addr):Prop:=¬gL M Z b/\b≠A.L/\b≠A.T/\∀i,i<6->b≠N i
open Classical in
noncomputable def HJ(H:Hp)(M:bq)(Z:ZS)(A:wu)(N:Nat->Addr):Hp:=λb=>if Kc M Z A N b then H b else none
section
variable{P:OK}{w:World}{K:OF}{a:f8}{j H p:Hp}{M F:bq}{Z E:ZS}{ns:OQ}{A:wu}{N:Nat->Addr}{D:xE}{B:xI}{c G:Nat}{ls C:OL}{v y:List (Str×Nat)}
def bx.outF(h:bx P w K a H M Z)(kp:Kp H p)(g:∀b ob,H b=some ob->gL M Z b->p b=some ob):bx P w K a p M Z:={h.inj,λr ob e=>g _ _ (h.at_ r ob e) (.inl {r,ng e,()}),λi l f=>(h.seats i l f).kp kp,h.trsI kp,λi l f=>let⟨h1,⟨m,h2,h3⟩,h4,o⟩:=h.tabs i l f;{λx d=>eL kp (h1 x d),{m,h2.outs λx d l s k n=>g _ _ n (.inr (.inl {i,(d_.mp f).1,x,d,k})),h3},h4.mono λ_ _ q=>eL kp q,o},h.came.outs kp λx d l s k n=>g _ _ n (.inr (.inr (x,d,k,)))}
def i4{b:Addr}{o:HO}(h:H b=some o)(s:Kc M Z A N b):HJ H M Z A N b=some o:=(i_ s).trans h
def I0{b:Addr}{o:HO}(e:HJ H M Z A N b=some o):H b=some o/\Kc M Z A N b:=by
 by_cases s:Kc M Z A N b
 ·show{(i_ s).symm.trans e,s}
 ·cases(iA s).symm.trans e
def nA.based(h:nA P w K a j H ns M Z A c ls v):nA P w K a (HJ H M Z A N) H ns M Z A c ls v:={h with bs:=λb o e=>let⟨d,f,g,i,_⟩:=I0 e;(d,f,g,i,)}
def nA.rebase(h0:nA P w K a j H ns M Z A c ls v)(n0:∀i,i<6->j (N i)=none)(h:nA P w K a (HJ H M Z A N) p ns F E A G C y):nA P w K a j p ns F E A G C y:={h with bs:=λb o e=>let⟨d,f,g,k⟩:=h0.bs b o e;h.bs b o (i4 d {f,g,k,λi hi=>aG e (n0 i hi)})}
def nA.new_sf(h:nA P w K a j H ns M Z A c ls v)(d:ww j H M Z A N D B){b:Addr}(e:H b=none):Kc M Z A N b:=by obtain⟨k,f,_⟩:=h.pl.T;show{h.z.g.foot e,λz=>bN h.pl.L (z▸e),λz=>bN f (z▸e),λi hi z=>bN (d.h.at_ i hi) (z▸e)}
def nA.kpr(h0:nA P w K a j H ns M Z A c ls v)(d:ww j H M Z A N D B)(h:∀b o,HJ H M Z A N b=some o->p b=some o):Kp H p:=by
 obtain⟨r,m,_⟩:=h0.pl.T;have f:∀b o,H b=some o->¬gL M Z b->(∀l,o≠.lst l)->(∀k,o≠.dK k)->(∀k,o≠.dT k)->Kc M Z A N b:=λb o e n h1 h2 h3=>by
  show{n,λz=>?_,λz=>?_,λi hi z=>?_}
  ·rw[z,h0.pl.L]at e;show h1 _ (mu e).symm
  ·rw[z,m]at e;show h1 _ (mu e).symm
  ·rw[z,d.h.at_ i hi]at e;have e:=mu e;unfold D0 at e
   split at e
   ·show h2 _ e.symm
   ·split at e
    ·show h3 _ e.symm
    ·show h2 _ e.symm
 show{λu l e=>h u _ (i4 e (f u _ e (λz=>(h0.z.g.ntup z).1 _ e) (λ_ z=>(nomatch z)) (λ_ z=>(nomatch z)) λ_ z=>(nomatch z))),λu o⟨q,e⟩=>{q,h u _ (i4 e (f u _ e (λz=>(h0.z.g.ntup z).2 _ _ e) (λ_ z=>(nomatch z)) (λ_ z=>(nomatch z)) λ_ z=>(nomatch z)))}}
def nA.noted(h:nA P w K a j H ns M Z A c ls v)(d:ww j H M Z A N D B)(f:wx N H p):nA P w K a j p ns M Z A c ls v:=by have kp:=f.kp d.h;obtain⟨k,l,m⟩:=h.pl.T;show{h with z:={h.z with g:=h.z.g.outF kp λb ob e n=>f b ob e λi hi z=>d.nf i hi (z▸n)},pl:={f _ _ h.pl.pl λi hi z=>(d.n1 i hi).1 z.symm,f _ _ h.pl.L λi hi z=>(d.n1 i hi).2.1 z.symm,{k,f _ _ l λi hi z=>(d.n1 i hi).2.2 z.symm,CD.kp kp m},h.pl.n1,h.pl.n2,h.pl.n3},bs:=λb o e=>{f _ _ (h.bs b o e).1 λi hi=>aG e (d.n0 i hi),(h.bs b o e).2}}
theorem ww.same(h:ww j H M Z A N D B)(s:ao H p):ww j p M Z A N D B:={h with h:=h.h.same s}
def ww.based(h:ww j H M Z A N D B):ww (HJ H M Z A N) H M Z A N D B:={h with n0:=λi hi=>iA λz=>z.2.2.2 i hi ()}
def ww.stp(h:ww j H M Z A N D B)(st:gw H M Z p F E):ww j p F E A N D B:={{λi hi=>st.fr _ _ (h.h.at_ i hi) (h.nf i hi),h.h.inj},λi hi=>st.nf (h.h.at_ i hi) (h.nf i hi),h.n1,h.n0}
def ww.chg(h:ww j H M Z A N D B)(e:LS A H p):ww j p M Z A N D B/\Kp H p:=by
 obtain⟨o,b,kp,d⟩:=e;show{{h with h:={λi hi=>d _ _ (h.h.at_ i hi) λz=>?_,h.h.inj}},kp};rcases b with rfl|rfl
 ·show(h.n1 i hi).2.1 z
 ·show(h.n1 i hi).2.2 z
end
def Jr{u v x y A B:Hp}{n0 a1 c f a4 g:Addr}(r:u n0=some (.dK []))(h1:u a1=none)(m:ao u v)(s:v a1=some (.dK []))(h2:v c=none)(h:ao v x)(C:x c=some (.dK []))(h3:x f=none)(l:ao x y)(E:y f=some (.dK []))(h4:y a4=none)(n:ao y A)(F:A a4=some (.dK []))(p:A g=none)(D:ao A B)(G:B g=some (.dT [])):∃N:Nat->Addr,N 0=n0/\N 1=a1/\N 2=c/\N 3=f/\N 4=a4/\N 5=g/\sI (aH B n0 (.dK (HR N))) N (λ_=>[]) []/\∀i,i<6->N i≠n0->u (N i)=none:=by
 have k:=h.trans (l.trans (n.trans D));have t:=l.trans (n.trans D);have I:=n.trans D;have nd:[n0,a1,c,f,a4,g].Nodup:=by have ne:∀{H:Hp}{a b:Addr}{o:HO},H a=some o->H b=none->a≠b:=λh1 h2 z=>bN h1 (z▸h2);simp only[NZ,so,o_,ML,not_or,MT,and_true,not_false_eq_true];show{{ne r h1,ne (m _ _ r) h2,ne (h _ _ (m _ _ r)) h3,ne (l _ _ (h _ _ (m _ _ r))) h4,ne (n _ _ (l _ _ (h _ _ (m _ _ r)))) p},{ne s h2,ne (h _ _ s) h3,ne (l _ _ (h _ _ s)) h4,ne (n _ _ (l _ _ (h _ _ s))) p},{ne C h3,ne (l _ _ C) h4,ne (n _ _ (l _ _ C)) p},{ne E h4,ne (n _ _ E) p},ne F p}
 have d:∀i,i<6->[n0,a1,c,f,a4,g][i]?=some ([n0,a1,c,f,a4,g].getD i n0):=λi hi=>by rw[ry,il hi];rfl
 have inj:∀i j,i<6->j<6->[n0,a1,c,f,a4,g].getD i n0=[n0,a1,c,f,a4,g].getD j n0->i=j:=λi j hi J e=>(I_ hi nd).mp (by rw[d i hi,d j J,e]);show{λi=>[n0,a1,c,f,a4,g].getD i n0,(),(),(),(),(),(),{λi hi=>?_,inj},λi hi z=>?_}
 ·by_cases q:i=0
  ·subst q;show ag
  ·change aH B n0 _ ([n0,a1,c,f,a4,g].getD i n0)=_;rw[aq (show[n0,a1,c,f,a4,g].getD i n0≠n0 fromλz=>q (inj i 0 hi (by decide) z))];rcases i with _|_|_|_|_|_|i
   ·show absurd () q
   ·show k _ _ s
   ·show t _ _ C
   ·show I _ _ E
   ·show D _ _ F
   ·show G
   ·lia
 ·rcases i with _|_|_|_|_|_|i
  ·show absurd () z
  ·show h1
  ·show m.free h2
  ·show(m.trans h).free h3
  ·show(m.trans (h.trans l)).free h4
  ·show(m.trans (h.trans (l.trans n))).free p
  ·lia
def su(p:Nat)(sa:Int):bq:={p,sa,[],[],[]}
def xb(h ln tn c dl dx:Addr):ZS:={λr=>match r with|.hh=>h|.ln=>ln|.tn=>tn|.ci=>c|_=>dl,λ_=>dx,[],[],λ_=>[],λ_=>[],λ_=>[],λ_=>dx,λ_=>.non,λ_=>dx}
section
variable{P:OK}{w:World}{K:OF}{a:f8}{H:Hp}{p:Nat}{sa:Int}{h ln tn c dl dx:Addr}
def G9(e:2<=p/\p<=997):j0 (su p sa) 0:={e,.nil,.nil,λl d=>(nomatch d),λt b=>(nomatch b),λx i=>(nomatch i),np _,np _,np _,λt b=>(nomatch b)}
def EK(hh:H h=some (.ins a.cK dx [("own_prime",.int p),("own_salt",.int sa),("layer_named",.ref ln),("trial_named",.ref tn),("came_into",.ref c),("deeds",.ref dl)]))(m:H ln=some (.dK []))(n:H tn=some (.dK []))(s:H c=some (.dK []))(u:H dl=some (.lst []))(n1:ln≠tn)(n2:ln≠c)(n3:tn≠c):bx P w K a H (su p sa) (xb h ln tn c dl dx):=by
 have at_:∀r o,cont P w a (su p sa) (xb h ln tn c dl dx) r=some o->H ((xb h ln tn c dl dx).G r)=some o:=λr o e=>by cases r<;>first|(obtain rfl:=mu e;assumption)|cases e
 show{λr j o k e b q=>?_,at_,λi l d=>(nomatch d),λi t v=>(nomatch v),λi l d=>(nomatch d),.nil};have x:=at_ r o e
 have y:=at_ j k b
 rw[q,y]at x;cases r<;>cases j<;>first|rfl|(cases e;done)|(cases b;done)|show absurd q n1|show absurd q n2|show absurd q n3|show absurd q.symm n1|show absurd q.symm n2|show absurd q.symm n3|(cases e;cases b;cases x;done)
def yQ(j:gL (su p sa) (xb h ln tn c dl dx) b):b=h\/b=ln\/b=tn\/b=c\/b=dl:=by
 rcases j with⟨r,d,e⟩|⟨i,hi,_⟩|⟨x,k,_⟩
 ·cases r
  ·show .inl e
  ·show .inr (.inl e)
  ·show .inr (.inr (.inl e))
  ·show .inr (.inr (.inr (.inl e)))
  ·show .inr (.inr (.inr (.inr e)))
  all_goals cases d
 ·cases hi
 ·cases k
end
def LI(J:St->Hp->Prop)(h1:∀c H,J c H->u D c H)(h2:∀(N:St->Hp->Prop)(R:VK)(B C:St->Hp->Prop),(∀c H,J c H->N c H)->rK e f (N,R,B,C,) c H):rK e (rK f u) D c H:=h2 (u D) D.rt D.bk D.ct h1
def xz.pr(h:xz p)(i:Nat)(hi:2+(i:Int)<(p:Int)):(p:Int)%(2+(i:Int))≠0:=λz=>by have h1:=(dk ():∀p∈[2,3,5,7,11,13,17,37,61],∀i,i<61->2+i<p->p%(2+i)≠0) p h i (by have:=h.le;lia) (by lia);have e:(((p%(2+i):Nat)):Int)=(p:Int)%((2+i:Nat):Int):=Int.natCast_emod _ _;rw[show(((2+i:Nat)):Int)=2+(i:Int)by lia,z]at e;lia
def lnO(M:bq):Option (Dd×List V)->List Str|some x=>vP M x.1|none=>gc M
def trO(M:bq):Option (Dd×List V)->List (Str×Nat)|some x=>sN M x.1|none=>iG M
def PlO(ns:OQ)(M:bq):Option (Dd×List V)->Prop|some x=>Hy ns M x.1|none=>True
def LF{E:Prop}{c:TT}{t u:TS}{D:jl}{e:St}(f:E->u D e H)(h:∀U:TS,(E->U D e H)->Bu c t U D e H):Bu c t u D e H:=h u f
inductive JL(P:OK)(w:World)(K:OF)(a:f8)(H0:Hp)(ns:OQ)(A:wu)(sc h gl:Addr)(N:Nat->Addr)(i:Nat)(σ:St)(H':Hp):Prop|mk(M:bq)(Z:ZS)(D:xE)(B:xI)(v5 v6 v7 v8 v9 v10:Option V)(L:nA P w K a H0 H' ns M Z A i (gc M) (iG M))(e:Z.G .hh=h)(C:jm M)(S:ww H0 H' M Z A N D B)(O:jX K H' M D B i)(s:σ=[some (.ref sc),some (.ref A.pl),some (.ref h),some (.ref gl),some (.ref (N 0)),v5,v6,v7,v8,v9,v10]):JL P w K a H0 ns A sc h gl N i σ H'
theorem Ax.same{M:bq}{v:V}{o:Option (Dd×List V)}(h:Ax K H M v o)(s:ao H H'):Ax K H' M v o:=by cases h with|dd h h1=>show .dd (ao.tseq s h) (h1.kp (.of s))|no h=>show .no (h.same s)
inductive J1(P:OK)(w:World)(K:OF)(a:f8)(H0:Hp)(ns:OQ)(A:wu)(M:bq)(Z:ZS)(N:Nat->Addr)(D:xE)(B:xI)(i:Nat)(f:V->St)(σ:St)(H':Hp):Prop|mk(v:V)(o:Option (Dd×List V))(L:nA P w K a H0 H' ns M Z A i (lnO M o) (trO M o))(S:ww H0 H' M Z A N D B)(O:jX K H' M D B i)(X:Ax K H' M v o)(p:PlO ns M o)(e:σ=f v):J1 P w K a H0 ns A M Z N D B i f σ H'
inductive MD(K:OF)(H:Hp)(M M':bq)(v:V):Bool->Prop|no(h:M'=M):MD K H M M' v false|yes{dv:Addr}{d:Dd}{xs:List V}(e:v=.ref dv)(hT:aS K H dv xs)(hD:jp K H M d xs)(n:gN M d M'):MD K H M M' v true
inductive JT(P:OK)(w:World)(K:OF)(a:f8)(H9:Hp)(ns:OQ)(A:wu)(M:bq)(Z:ZS)(v:V)(N:Nat->Addr)(i:Nat)(f:Bool->St)(σ:St)(H':Hp):Prop|mk(M':bq)(Z':ZS)(D':xE)(B':xI)(b:Bool)(L:nA P w K a (HJ H9 M Z A N) H' ns M' Z' A (i+1) (gc M') (iG M'))(e:Z'.G .hh=Z.G .hh)(C:jm M')(S:ww (HJ H9 M Z A N) H' M' Z' A N D' B')(O:jX K H' M' D' B' (i+1))(h:MD K H9 M M' v b)(s:σ=f b):JT P w K a H9 ns A M Z v N i f σ H'
inductive JI(H10:Hp)(f:Option V->St)(σ:St)(H':Hp):Prop|mk(w1:Option V)(s:ao H10 H')(e:σ=f w1):JI H10 f σ H'
def AhV(K:OF)(M:bq)(D:Addr)(e c:Hp)(v:V)(g:Str):Prop:=∃l b,v=.ref l/\l≠D/\e l=none/\c l=some (.lst b)/\fF K c b (iW M g)
def AhE(K:OF)(M:bq)(D:Addr)(e c:Hp)(v:V)(g:Str):Prop:=∃l b,v=.ref l/\l≠D/\e l=none/\c l=some (.lst b)/\cz K c b (cP M.came g)
section
def Jp(T:Txt K mg a)(hw:w.params=a.pm):aT P w K mg base d0 17 a.law.x a.law.d ["_law_script"] (C9 K):=by
 show T.law.ok iY λhY A outer s H vs Q E S h=>?_
 ·obtain⟨sc,ns,rfl,hS,hl,q⟩:=h;show{_,(ah (bn 1 iY.nd (pc T.wy (DW T) S (O (Y 0) ae))) (ah (tR (i:=2) iY.nd () (.inr ()) (sE T.Eg ((se (P:=P) (w:=w) T).mono (by decide)) S () T.GY T.eE.b .nil bj (O (gG K (Y 1) af) (O (gG K (Y 1) af) ae)))) (ah (Ai 3 uK [] [5] [5] (am x6) (bW 5) (dA () T.eV (O af ae)) (λcl C s₀ H₀ ex=>{(lF uK [] 5),bR,(pc T.mM (qu T) S (O (Y 5) (O (pc T.eB (cN T) S (O (Y 0) (O af (O af ae)))) ae)))}) iY.nd) (ah (bn 4 iY.nd (GC (mh av fP (mh av fP (mh av fP (mh av fP (mh av DN Gv))))) () () (nofun) (by decide))) (ah (eO o0 () (dA () T.eV (O (aA (qH ()) (by rfl) T.Ea L2.uC (O (ay bP (aA (aI K ()) (by rfl) T.bE L2.aJ (O (Y 0) ae)) af) (O af ae))) ae)) (oK 5 iY.nd) (ah (bn 6 iY.nd (pc T.iS (wT T) S (O (Y 0) (O (Y 1) (O (Y 5) ae))))) (ah (Ai 7 uK ["_law_guest_here"] [] [11] (am x6) (bW 11) (c5 K () (Y 3)) (λcl C s₀ H₀ ex=>{(lF uK ["_law_guest_here"] 11),bR,(bw (Y 2) T.aF T.db.m ((jR (P:=P) (w:=w) T).mono (by decide)) S T.db.b .nil bj (O (Y 11) ae))}) iY.nd) (ah (Ai 8 uK ["_law_guest_here"] [] [11] (am x6) (bW 11) (c5 K () (Y 3)) (λcl C s₀ H₀ ex=>{(lF uK ["_law_guest_here"] 11),bR,(bw (Y 2) T.aF T.dF.m ((ml (P:=P) (w:=w) T).mono (by decide)) S T.dF.b .nil bj (O (Y 11) ae))}) iY.nd) (ah (bn 9 iY.nd (bL wN (pc T.qO (BU T hw) S (O (Y 2) (O (Y 6) ae))) jN (aE _))) (ah (aK (aR K () (Y 9) (λ_=>())) (ai (aY (pc T.qQ (BW T) S (O (Y 4) (O (Y 6) ae))))) aD) (ai (eO o0 () (dA () T.eV (O af ae)) (oK 10 iY.nd) (ai (aK (PW.pt (jM (aR K () (Y 9) (λ_=>())) (jM (aC aQ (cA K (Y 6) af) av (aE _)) (iH (aC aQ (cA K (Y 6) af) (gG K (Y 3) (Y 10)) (aE _)))))) (ai (aK (cx (aR K () (pc T.fG (r6 T) S (O (Y 2) (O (Y 4) (O (Y 6) (O (gG K (Y 8) (Y 10)) (O (gG K (Y 7) (Y 10)) ae)))))) (λ_=>()))) (ai (az dU)) aD)) (ai (aK (aC (DR K () (bv S)) (bw (Y 2) T.aF T.db.m ((jR (P:=P) (w:=w) T).mono (by decide)) S T.db.b .nil bj (O (gG K (Y 3) (Y 10)) ae)) (gG K (Y 7) (Y 10)) (aE _)) (ai (az dU)) aD)))))))))))) (ai (az dU))))))),?_}
  show iK λu1 I=>?_;show U () {sc,ns,(),hS,hl,λA p sa H1 s1 hZ g2 g3 hP pr g4=>au (nR ?_)};subst I;show iK λu1 I=>?_;have hp:=pr.le;show U () (rX (aW.of hP.pl) (aj (k:=0) ()) (U () (rX (aW.of hP.pl) (aj (k:=1) ()) (λh dx hh g5 h6=>?_))));have f2:ao H1 (aH (aH H1 dx (.own h)) h (.ins a.cK dx [])):=λb o e=>by rw[aq (aG e hh),aq (aG e g5)];show e
  have ea:aH (aH H1 dx (.own h)) h (.ins a.cK dx []) h=some (.ins a.cK dx []):=ag;generalize aH (aH H1 dx (.own h)) h (.ins a.cK dx [])=H2 at f2 ea⊢;show{h,dx,(p:Int),sa,(),ea,{by lia,by lia},pr.pr,g4,λln tn ci dl H3 eH eN e6 e7 g6 g7 g8 f3 eb a7 a8 bb bc=>{(),au (nR ?_)}};subst I;have s3:ao H1 H3:=λb o e=>f3 b o (f2 b o e) (aG e hh);have e8:bx P w K a H3 (su p sa) (xb h ln tn ci dl dx):=EK eb a7 a8 bb bc g6 g7 g8;obtain⟨ut,ed,_⟩:=hP.T;have bi:∀b o,H1 b=some o->¬gL (su p sa) (xb h ln tn ci dl dx) b:=λb o e z=>by
   rcases yQ z with rfl|rfl|rfl|rfl|rfl
   ·show bN e hh
   ·show bN e (f2.free eH)
   ·show bN e (f2.free eN)
   ·show bN e (f2.free e6)
   ·show bN e (f2.free e7)
  have c3:nA P w K a H H3 ns (su p sa) (xb h ln tn ci dl dx) A 0 [] []:={{e8,G9 {by show hp.1,by lia},λi=>np _,λi=>np _,np _},hP.same s3,{λi l hl=>(nomatch hl),λj t ht=>(nomatch ht),np _,pr},bi _ _ hP.pl,bi _ _ hP.L,bi _ _ ed,λb o e=>{s3 _ _ (s1 _ _ e),bi _ _ (s1 _ _ e),aG e g2,aG e g3}};have c4:∀b,H3 b=none->¬gL (su p sa) (xb h ln tn ci dl dx) b:=λb e z=>by
   rcases yQ z with rfl|rfl|rfl|rfl|rfl
   ·show bN eb e
   ·show bN a7 e
   ·show bN a8 e
   ·show bN bb e
   ·show bN bc e
  generalize e9:xb h ln tn ci dl dx=Z0 at c3 c4;have fa:Z0.G .hh=h:=by rw[<-e9];rfl
  clear e9 e8 eb a7 a8 bb bc eH eN e6 e7 f3 f2 ea bi;show iK λu1 I=>?_;show U () {by show kl _,by show kl _,λgl aa=>?_};show ff (K:=K) (lo:=0) (n:=7) (λj f H'=>ao H3 H'/\H' gl=some (.lst f)/\∃(gs:OL),f=gs.map V.str/\gs.length=j/\∀g∈gs,uP g) {ak (ao.refl _) aa,ag,[],(),(),λx hx=>nomatch hx} ?_ ?_
  ·rintro j f H4 hj⟨s4,bt,gs,rfl,fl,bz⟩;show au (iy (bh ?_));show U () (U () {sc,ns,4,6,(),((s1.trans s3).trans s4).seq hS,hl,{by decide,by decide},{by decide,by decide},0+(j:Int),cV ns 4 6,(),λg H5 s5 hg=>?_});show{s5 _ _ bt,by rw[b_,ji];lia,lf hj {bu (s4.trans s5) aa,ag,gs++[g],by rw[ir];rfl,by rw[j1,fl];rfl,λx hx=>?_}};rcases List.mem_append.mp hx with z|z
   ·show bz x z
   ·rw[List.mem_singleton.mp z];show hg
  rintro f H4⟨s4,bt,gs,rfl,fl,bz⟩;show au (nR ?_);subst I;show iK λu1 I=>?_;showλn0 h0=>?_;show fM h0 λK1 t0 e0=>?_;showλa1 h1=>?_;show fM h1 λK2 t1 e1=>?_;showλa2 h2=>?_;show fM h2 λK3 t2 e2=>?_;showλa3 h3=>?_;show fM h3 λK4 t3 e3=>?_;showλa4 h4=>?_;show fM h4 λK5 t4 e4=>?_;showλa5 h5=>?_;show fM h5 λK6 t5 e5=>?_;have fm:=t0.trans (t1.trans (t2.trans (t3.trans (t4.trans t5))));obtain⟨N,rfl,rfl,rfl,rfl,rfl,rfl,hN,fo⟩:=Jr e0 h1 t1 e1 h2 t2 e2 h3 t3 e3 h4 t4 e4 h5 t5 e5;show{(t1.trans (t2.trans (t3.trans (t4.trans t5)))) _ _ e0,HR N,(),(show 5<=15 by decide),au (nR ?_)};subst I;rw[show qy [] (HR N)=HR N from ()];have nN:∀i,i<6->H4 (N i)=none:=λi hi=>by
   by_cases z:N i=N 0
   ·rw[z];show h0
   ·show t0.free (fo i hi z)
  have s5:ao H4 (aH K6 (N 0) (.dK (HR N))):=λb o e=>by rw[aq (aG e h0)];show fm _ _ e
  generalize aH K6 (N 0) (.dK (HR N))=H5 at hN s5⊢;clear e0 h1 t1 e1 h2 t2 e2 h3 t3 e3 h4 t4 e4 h5 t5 e5 fm t0 fo h0;have ef:=s4.trans s5;have n3:∀i,i<6->H3 (N i)=none:=λi hi=>s4.free (nN i hi);have fv:∀b o,aH H gl (.lst (gs.map V.str)) b=some o->H5 b=some o/\¬gL (su p sa) Z0 b/\b≠A.L/\b≠A.T:=λb o e=>by
   by_cases z:b=gl
   ·rw[z,ag]at e;rw[z];show{by rw[<-e];show s5 _ _ bt,c4 _ aa,λy=>bN (hP.same s3).L (y▸aa),λy=>bN (s3 _ _ ed) (y▸aa)}
   ·rw[aq z]at e;show(c3.same ef).bs b o e
  have da:nA P w K a (aH H gl (.lst (gs.map V.str))) H5 ns (su p sa) Z0 A 0 [] []:={c3.same ef with bs:=fv};have ei:ww (aH H gl (.lst (gs.map V.str))) H5 (su p sa) Z0 A N (λ_=>[]) []:={hN,λi hi=>c4 _ (n3 i hi),λi hi=>{λz=>bN (hP.same s3).pl (z▸n3 i hi),λz=>bN (hP.same s3).L (z▸n3 i hi),λz=>bN (s3 _ _ ed) (z▸n3 i hi)},λi hi=>by rw[aq (aG bt (nN i hi)).symm];show(s1.trans s3).free (n3 i hi)};have fw:jX K H5 (su p sa) (λ_=>[]) [] 0:={λt ht=>(nomatch ht),λx z=>absurd () z,λx z=>absurd () z,λg x z=>absurd () z,λ_=>e_ _,e_ _};have ej:aW K (aH H gl (.lst (gs.map V.str))) sc (ns.map V.int):=(ak (ao.refl H) ((s1.trans s3).free aa)).seq hS;have ek:aH H gl (.lst (gs.map V.str)) gl=some (.lst (gs.map V.str)):=ag;clear fv;generalize aH H gl (.lst (gs.map V.str))=H0 at da ei ej ek;clear c3 c4 s4 bt ef n3 aa s5 nN hN;obtain⟨n,en,n0,n1⟩:∃n:Int,n=(if(63:Int)<(ns.length:Int)+8 then 63 else(ns.length:Int)+8)/\0<=n/\n<=63:={_,(),by split<;>lia,by split<;>lia};show U () {_,ns.length,(),.inl {_,(da.dr ej hl).sq,by simp},_,U () {(),_,U () {n,(by rw[en]),(by lia),(by lia),?_}}};show iP (lo:=0) (n:=n.toNat) (JL P w K a H0 ns A sc h gl N) {_,Z0,_,_,_,_,_,_,_,_,da,fa,λt ht=>(nomatch ht),ei,fw,()} ?_ (λσ H' _=>q H');clear da ei fw fa;rintro i σ H6 hi⟨M,Z,D,B,v5,v6,v7,v8,v9,dc,hL,rfl,hC,hA,hO,rfl⟩;rw[show(0:Int)+(i:Int)=((i:Nat):Int)by lia];show au ?_;show LJ (J1 P w K a H0 ns A M Z N D B i λv=>[some (.ref sc),some (.ref A.pl),some (.ref (Z.G .hh)),some (.ref gl),some (.ref (N 0)),some (.int (i:Nat)),some v,v7,v8,v9,dc]) ?A1 (λNn hJ=>?B1)
  case B1=>
   show U () (U () (U () {sc,ns,M,A,i,(i:Int),(),hL.dr ej hl,{by lia,by lia},λdv d xs H7 ch hT hD hb he h7=>au (hJ _ _ ?_),λt0 v H7 s7 hD=>au (hJ _ _ ?_)}))
   ·obtain⟨hf,kp⟩:=hA.chg ch;show{.ref dv,some (d,xs),hL.chg ch hb,hf,hO.kp kp,.dd hT hD,he,()}
   ·show{v,none,hL.same s7,hA.same s7,hO.kp (.of s7),.no hD,trivial,()}
  case A1=>
  rintro σ H7⟨v,o,X,el,fx,fy,ho,rfl⟩;clear hL hA hO;have ad:=(X.bs _ _ ek).1;have l4:=X.z.ok.l4;show iK λu1 I=>?_;show U () {gl,(),{_,aW.of ad},λD1 ep=>?_};show gj (K:=K) (a:=gl) (xs:=gs.map V.str) (λj f H'=>ao H7 H'/\H' D1=some (.lst f)/\Paired (AhE K M D1 H7 H') f (gs.take j)) {ak (ao.refl _) ep,ag,.nil} (λj f H' _ h=>aW.of (h.1 _ _ ad)) ?_ ?_
  ·rintro j u f hq hv⟨s2,ap,bQ⟩;have hj:j<(gs.map V.str).length:=(d_.mp hv).1;rw[ig]at hv;obtain⟨g,hg,rfl⟩:=Option.map_eq_some_iff.mp hv;show au (iy (bh ?_));show nM (s2 _ _ X.z.g.house) () () (U () {M,Z,i,g,(),X.z.same s2,by lia,bz g (g_ hg),λr J b0 W S eq b8=>?_});have b9:=W _ _ ap;have kp:Kp b0 (aH b0 D1 (.lst (f++[.ref r]))):=.lst b9;have nr:r≠D1:=λz=>bN ap (z▸S);have hs:f.length<=7:=by have:=Paired.length bQ;rw[oa]at this;lia
   show{b9,by rw[ji];lia,lf hj {bu (s2.trans W) ep,ag,?_}};rw[cg hg];show Paired.snoc (Paired.mapP bQ λv g⟨l,J,e1,e2,e3,e4,e5⟩=>{l,J,e1,e2,e3,by rw[aq e2];show W _ _ e4,(e5.kp (.of W)).kp kp}) {r,J,(),nr,s2.free S,by rw[aq nr];show eq,b8.kp kp}
  rintro al H8⟨s8,fH,er⟩;rw[b_,Ow]at er;show au (nR ?_);subst I;have es:=X.same s8;have cc:=s8 _ _ ad;show iK λu1 I=>?_;show U () {gl,(),{_,aW.of cc},λD2 ap=>?_};show gj (K:=K) (a:=gl) (xs:=gs.map V.str) (λj f H'=>ao H8 H'/\H' D2=some (.lst f)/\Paired (AhV K M D2 H8 H') f (gs.take j)) {ak (ao.refl _) ap,ag,.nil} (λj f H' _ h=>aW.of (h.1 _ _ cc)) ?_ ?_
  ·rintro j u f hq hv⟨s2,fR,bQ⟩;have hj:j<(gs.map V.str).length:=(d_.mp hv).1;rw[ig]at hv;obtain⟨g,hg,rfl⟩:=Option.map_eq_some_iff.mp hv;show au (iy (bh ?_));show nM (s2 _ _ es.z.g.house) () () (U () {M,Z,i,g,(),es.z.same s2,bz g (g_ hg),λr J b0 W S eq b8=>?_});have b9:=W _ _ fR;have kp:Kp b0 (aH b0 D2 (.lst (f++[.ref r]))):=.lst b9;have nr:r≠D2:=λz=>bN fR (z▸S);have hs:f.length<=7:=by have:=Paired.length bQ;rw[oa]at this;lia
   show{b9,by rw[ji];lia,lf hj {bu (s2.trans W) ap,ag,?_}};rw[cg hg];show Paired.snoc (Paired.mapP bQ λv g⟨l,J,e1,e2,e3,e4,e5⟩=>{l,J,e1,e2,e3,by rw[aq e2];show W _ _ e4,(e5.kp (.of W)).kp kp}) {r,J,(),nr,s2.free S,by rw[aq nr];show eq,b8.kp kp}
  rintro cS H9⟨s9,fX,ew⟩;rw[b_,Ow]at ew;show au (nR ?_);subst I;have di:=s8.trans s9;have ac:=X.same di;have dt:=el.same di;have ey:=fx.kp (.of di);have dT:=fy.same di;show LI (JT P w K a H9 ns A M Z v N i λb=>[some (.ref sc),some (.ref A.pl),some (.ref (Z.G .hh)),some (.ref gl),some (.ref (N 0)),some (.int (i:Nat)),some v,some (.ref D1),some (.ref D2),some (.bl b),dc]) ?A2 (λNn R' B' C' hJ=>?B2)
  case B2=>
   have dV:=ac.based (N:=N);have f0:=dt.based;show U () (U () {M,Z,i,v,o,(),ac.z,by lia,dT,λd xs eo hy r J M' Z' R nx st hB h8=>?_,λha R c0=>?_})
   ·subst eo;cases dT with|@dd dv _ _ hT as=>have kp:=ac.z.g.stp st;have d1:=dV.fin nx st hB ho;have ax:=f0.stp st;show{(),au (nR ?_)};rw[me (show¬V.ref r=V.non from nofun)];show U () {true,(),bh ?_};show U () (U () {N,D,B,M,M',i,dv,xs,(),ax.h,ey.kp kp,by lia,kp.tq hT,(as.note nx).kp kp,λD' B' h9 hF f4 f5=>hJ _ _ ?_});show{M',Z',D',B',true,d1.noted ax hF,st.hh,hC.next ac.z.ok as hy nx,{ax with h:=f4},f5,.yes () hT as nx,()}
   ·show{(),au (nR (U () {false,(),bV (hJ _ _ ?_)}))};show{M,Z,D,B,false,?_,(),hC,f0.same c0,(ey.kp (.of c0)).trs (),.no (),()};cases dT with|dd hT as=>show dV.not (ha _ _ ()) c0|no hX=>show{dV.same c0 with z:=(dV.same c0).z.mono (sf i)}
  case A2=>
  rintro σ R⟨M',Z',D',B',b,F,d2,hG,f6,d3,hH,rfl⟩;have kp:=ac.kpr dt λb o e=>(F.bs b o e).1;have c1:∀x,H7 x=none->Kc M Z A N x:=λx hx=>X.new_sf el hx;have d4:R D1=some (.lst al):=(F.bs _ _ (i4 (s9 _ _ fH) (c1 D1 ep))).1;have f7:R D2=some (.lst cS):=(F.bs _ _ (i4 fX (c1 D2 (s8.free ap)))).1;have ga:Paired (λv g=>∃l J,v=.ref l/\R l=some (.lst J)/\cz K R J (cP M.came g)) al gs:=Paired.mapP er λv g⟨l,J,e1,e2,e3,e4,e5⟩=>{l,J,e1,(F.bs _ _ (i4 (s9 _ _ e4) (c1 l e3))).1,(e5.kp (.of s9)).kp kp};have ge:Paired (λv g=>∃l J,v=.ref l/\R l=some (.lst J)/\fF K R J (iW M g)) cS gs:=Paired.mapP ew λv g⟨l,J,e1,e2,e3,e4,e5⟩=>{l,J,e1,(F.bs _ _ (i4 e4 (c1 l (s8.free e3)))).1,e5.kp kp};have d1:=ac.rebase dt.n0 F;have c2:=(d1.bs _ _ ek).1;have ax:ww H0 R M' Z' A N D' B':={f6 with n0:=dt.n0};have hM:=ac.z.ok;clear er ew fH fX X el es ad cc c1 ey fx dT fy;show{7,(),by lia,by lia,?_};show iP (lo:=0) (n:=7) (λ_=>JI R λdc=>[some (.ref sc),some (.ref A.pl),some (.ref (Z.G .hh)),some (.ref gl),some (.ref (N 0)),some (.int (i:Nat)),some v,some (.ref D1),some (.ref D2),some (.bl b),dc]) {_,ao.refl _,()} ?_ ?_
  ·rintro j σ hI hj⟨gg,c,rfl⟩;rw[show(0:Int)+(j:Int)=((j:Nat):Int)by lia];have gv:j<gs.length:=by lia
   have hg:=il gv;have ez:=bz _ (Nf gv);generalize gs[j]=g at hg ez;obtain⟨u,hu,l,J,rfl,d5,hw⟩:=oq ga j _ hg;obtain⟨u',hK,l',hQ,rfl,eG,b8⟩:=oq ge j _ hg;show au ?_;show LF (E:=cP M'.came g=cP M.came g) (λec=>?_) λ_ hU=>?_
   ·show nM (by rw[<-d2];show c _ _ F.z.g.house) () () (U () (U () {gl,gs.map V.str,_,.str g,(),(),aW.of (c _ _ c2),aj (by rw[ig,hg];rfl),M',Z',i+1,g,by rw[d2];rfl,F.z.same c,by lia,ez,λr hR hW a6 S gV g1=>?_}));show U () (U () {D1,al,_,.ref l,(),(),aW.of (a6 _ _ (c _ _ d4)),aj hu,r,l,hR,J,(cP M.came g).map λy=>[y.1,y.2],(),(),aW.of gV,aW.of (a6 _ _ (c _ _ d5)),cz.data (ec▸g1),cz.data (hw.kp (.of (c.trans a6))),U () (bV {_,c.trans a6,()})})
   cases hH with|no e=>show{_,(),false,(),bV (hU (by rw[e]))}|@yes dv d xs ev hT as nx=>
   subst ev;have an:=ao.tseq c (kp.tq hT);rcases((as.note nx).kp kp).ever with⟨g0,mv,ms,ss,rfl,_,hm,ha,hv⟩|⟨k,r,rfl,hk,ec⟩
   ·show U () {true,(),bh (U () (rX an (aj (k:=0) ()) {(),U () (aZ ?_)}))};show U () (rX an (aj (k:=1) ()) (U () (U () {gl,gs.map V.str,_,.str g,(),(),aW.of (c _ _ c2),aj (by rw[ig,hg];rfl),(),U () (yL (λeg=>?_) (λne=>hU (hv.oth g λz=>ne z.symm)))})));subst eg;show U () (U () (U () (U () (U () {D2,cS,_,.ref l',(),(),aW.of (c _ _ f7),aj hK,?_}))));show U () (U () {D1,al,_,.ref l,(),(),aW.of (c _ _ d4),aj hu,M,M',Z',i+1,i,i+1,N,D',B',dv,l',l,g0,mv,ms,ss,J,hQ,by rw[d2];rfl,F.z.same c,by lia,hM,hC,ax.h.same c,d3.kp (.of c),an,ez,hm.kp (.of c),ha,hv,c _ _ eG,b8.kp (.of c),c _ _ d5,hw.kp (.of c),λhW a6=>(U () (bV {_,c.trans a6,()}))})
   ·show U () {true,(),bh (U () (rX an (aj (k:=0) ()) {(),U () (eS hk (hU (by rw[ec])))}))}
  ·rintro σ hI⟨gg,c,rfl⟩;show{M',Z',D',B',_,_,_,_,_,_,d1.same c,d2,hG,ax.same c,d3.kp (.of c),()}
end
end My
end
structure PySem.W.Fast:Prop where(tw13431914314362389632 tw6163219720708712151 tw5119124130674705984 tw10030028945509802039 tw15900185857404795726 tw9900108684932338571 tw14689221576765015264 tw11106092492395325010 tw11480224888818105244 tw6826564475797837460 tw12049621450477842088 tw16193639945774342784 tw15681672917300550385 tw17214550039638193690 tw5398539635073493582 tw3673253712686039852 tw1716717182698856115 tw10453423362373101332 tw922079044843507360 tw9847066018275295031 tw1186789584228091425 tw15630605172697311590 tw11171978182284666332 tw3890349423690502039 tw6720179517158416387 tw891991370386116991 tw4547017219101069329 tw11380071982961043613 tw11974349631753934862 tw1511189570743439131 tw17500990409387240564 tw15732983027793447716 tw4717207378371061377 tw16857191840946527283 tw14315423968263969851 tw7968370754996885369 tw11821028819765840275 tw1723571973278450246 tw14594061787935068898 tw16845682423444468231 tw2189058862925177762 tw2265740016420701517 tw10054068993681087847 tw6444063317707784322 tw10447715515790113102 tw13938935870364602851 tw4385993296519897564 tw13769519072558920715 tw4204137481178600391 tw12292930181258239123 tw17786819411185343281 tw17853816811069048833 tw7585670352292663712 tw17383128666400665349 tw7257178551969474413 tw13867187108800457290 tw6364904585500626092 tw9520978130197851581 tw14909991814455443038 tw13605998322740208892 tw1201844085244450246 tw7606332902419749053 tw6646550053541389416 tw2356814701197284952 tw3799197813995631075 tw15953082474550156256 tw14977937686198249685 tw222079139353393938 tw12786668738235007009 tw3720245500524281496 tw457760156176381038 tw8925506337660409872 tw15445467323667787902 tw18030522135181486929 tw2387690116913966833 tw9159776299209502052 tw11284257309994227442 tw15920285591916914103 tw623521399022266947 tw7971312894599983275 tw12384110556346081090 tw12909998578212989714 tw17039247292667151296 tw14134012633761254543 tw2378712064946527714 tw15308257701764330439 tw17470830894263191618 tw5228581655273927117 tw12821387073553592789 tw2220521185677865003 tw6551766840050586122 tw8000890305645193629 tw1760507879359908082 tw11750009791338486244 tw14214771751693977596 tw1281002609790428439 tw6167435185842566554 tw7385495548183013787 tw208869047772784341 tw11062349883452133949 tw116335163559568108 tw3065999922846681503 tw4393127297525489968 tw4494530100466329968 tw17947759705201942838 tw3576572627508988315 tw12202804988508667161 tw12265808050984064751 tw2123526745187120908 tw716062571679419211 tw12576212684037334593 tw7468420663791190985 tw15416683951342374077 tw8628756317134499719 tw7204781433235198530 tw5654098659238064922 tw6111672755374473650 tw5653292937672119910 tw15754714220557865399 tw6272045868421097606 tw5872108920606834462 tw4256318730669714833 tw5233195834778716735 tw17483639213582780435 tw3427257012223459895 tw8398095860138185283 tw13880306151883440045 tw8713294646026801023 tw888497402053297622 tw8148848184949303761 tw6766504284635949637 tw2328731048338967249 tw9182810244381833476 tw9652827739266341411 tw17143529378539209641 tw2982270998540252047 tw17719444336335295380 tw17265330695013995140 tw8957106323537492824 tw3028434182177238518 tw17213620063465429264 tw13247033502269500606 tw10718854723484985183 tw13574472498159282204 tw10083159115599416506 tw13160467153767203929 tw9538123507310765377 tw17670964348382064785 tw17921791061929351085 tw14482322992092097044 tw3333308192618709216 tw14652971966252120384 tw3684764388431051823 tw16134113869780346814 tw1444850144322905046 tw10153916070208759803 tw790325307459855200 tw13297849691310606003 tw15892592629224199499 tw6751642559390615211 tw3798651413499033351 tw11924779066377903786 tw15253357187760347124 tw13237471308575067651 tw6753189994435994007 tw12035821513876551833 tw7347128860785986303 tw14985713315028988514 tw13044906982414857546 tw13572163313977382249 tw8707045560311836971 tw6153145801400397036 tw9734390186137383190 tw16455910732028663662 tw1716207466045267295 tw17902998477444019540 tw11306247713247254653 tw2760017778541281665 tw9162761026667839443 tw15954671798311024043 tw17461671193156146440 tw8930610259028044876 tw2978891202059959422 tw10548882646091768699 tw15755876111155765758 tw10712036156089793289 tw16965702875784668859 tw14353389538019183179 tw10669562668546943467 tw9070193626121911498 tw506322327922885340 tw4071112205707817384 tw2868540546144477210 tw17675715492864438421 tw2216274927985534916 tw11541322134823684952 tw11375371665376127006 tw17652048144759061570 tw16219360406456600900 tw14976851604533725314 tw16888471952946502520 tw17344424966267582594 tw8649061904664636667 tw7883001628816271554 tw8690759072536203716 tw7857359158066705522 tw1641132183523824154 tw14924628195840654179 tw12591622347781917041 tw8212977233992949302 tw5133437470743393179 tw9173160224258571321 tw1716353765519443904 tw12510584899731917061 tw430810567686984500 tw1858661591163611819 tw12061075773261547573 tw16044342940339061623 tw17239686516905539675 tw16056475421760269852 tw7580102514267126394 tw9046559755257026633 tw17898426649272105439 tw14781262632796202100 tw4194344520998134324 tw1319286992709020960 tw2207142835289121575 tw10259683303813843032 tw8461372983315471844 tw17603117292725228498 tw7419506731023319435 tw13354702819338652604 tw12234761921841923239 tw4290154300838154747 tw3969531267694259187 tw17896734874804239165 tw9436774136006703810 tw16224922053098066146 tw805978989440737781 tw189841910750887766 tw4942953618138933797 tw1506255258362346774 tw7797283084118320113 tw992052012431413170 tw12750313683906749527 tw1233033460881577117 tw14507748152038521978 tw14055753656468452088 tw16815929392827760412 tw7642959108715013604 tw2084162230562194921 tw12829732747256329637 tw8492652843508785654 tw16429022316471276177 tw14647274644506914334 tw17397553684018389677 tw10936661062998825435 tw807539112286999693 tw12023752203940461295 tw2724098468860867376 tw12143174503778605638 tw2425167369311746945 tw3310975991376776976 tw17358583236950928627 tw10773048357279042903 tw4437978040497735913 tw15803459173545549553 tw6773486182801046730 tw11946695381444948343 tw15831497441534984332 tw3217000991836964757 tw1061266683547473016 tw451359326687638221 tw18253019077550329731 tw1188610632617133391 tw8284660882335635379 tw18313419781883004737 tw18416540725194311603 tw13968242838971381054 tw7294581768389208614 tw7795774325423844290 tw2157324409001295157 tw10961120173212598434 tw4458719046707963044 tw4456002523943552770 tw14074988134931271191 tw14478438230695557264 tw11782939867133731797 tw11185508549654447308 tw14946267397863701011 tw15511975442735620919 tw841915806914091091 tw7868475649306874626 tw6150186579501814450 tw826350467769235962 tw1413983010110710757 tw9071469467447203520 tw9285064564185611232 tw11499663782323939040 tw6026387272036312169 tw7071185849473461443 tw17817557788333212507 tw10637077584359042796 tw16480901892461426237 tw6214410715891589157 tw3710200839206735878 tw16398455265288059542 tw182339333562537908 tw9419433659329655794 tw8125860206254485621 tw12066707487930258902 tw15022135146051324588 tw15821547420978419938 tw7867707309001578551 tw9460061316369540505 tw8986026294330099512 tw2121633123834679110 tw8797021882474041292 tw4487595496206829891 tw1948271207861150227 tw2830496172388622855 tw3397474032128381970 tw16080652984718090402 tw15591540934367912530 tw5775063009894979030 tw5097889423223824834 tw15260930758982623429 tw1360043863195052386 tw6473508035944651871 tw14076644568396668591 tw3203540183301940841 tw13971540404641225079 tw7985548467637818008 tw1108492632779919042 tw10515900258578994269 tw423500916416855146 tw8425834326948932836 tw6772188403717927684 tw18275883605005637508 tw11416073606608740804 tw1597962089146211546 tw12938188928591619510 tw939407594523043532 tw3047198192044129749 tw8478818962516353627 tw4772267636852548054 tw15662877447405453962 tw12649344392000854831 tw6452225281728095321 tw13017897187592710638 tw10465758013944991572 tw14032232180299731866 tw16854559742411166833 tw5395907921478027020 tw12973784509574126899 tw3661275872340666969 tw1418647616889321312 tw9839374206926549103 tw13708885453061378164 tw11973479784745252187 tw17162092735623967205 tw6185359035518992535 tw11658021338730148738 tw2753471382438580037 tw12148111369879716792 tw9796388222776447762 tw13060759512649805795 tw2873403291985530955 tw3246971547708348881 tw15492213331845387892 tw860802506622031665 tw17979991066804310664 tw16459259901691932904 tw5712995486466008267 tw15845410884610264875 tw4932760983667755959 tw5747039154330917029 tw6156959494525895746 tw4003053971365979556 tw6098765367583867874 tw412695482092809202 tw5520028561349555973 tw14394605367800990756 tw16431044943775778764 tw16537447257466366744 tw6552883383844461216 tw14457129378391071242 tw14887290993712156622 tw15504198701594586309 tw18408051467922340804 tw2062710256499555898 tw14984516191599219564 tw7351187954345102326 tw18241117265058678328 tw10661300530158408275 tw1646207592965990671 tw8673741774961527695 tw11713203658340022708 tw15179484286353545915 tw9905218943231945917 tw12234868670521347546 tw11677660501858599055 tw4606542945608115544 tw9570245440271985799 tw9948690627322341521 tw295224012831434181 tw8183526497689648946 tw11262940880174824710 tw11438909045841816067 tw17905268397632491739 tw12014632039134658548 tw11118045737401978016 tw5058088225635371360 tw5683668685645151963 tw8653873235203540649 tw436367462301401409 tw11707511785645050457 tw13134905436735360777 tw6405076992933914441 tw10668368480655306294 tw15344893407567939138 tw14927837165701671677 tw14548701394660766545 tw17899179171749362413 tw4755445008093668446 tw14208292307199980078 tw10538916174308131721 tw11190270214338293151 tw6703643795554288453 tw14506825123818980816 tw12224346453726884617 tw7544582827634715848 tw16668267936403531301 tw17230967709970176820 tw7468733164752479344 tw4555248625090358770 tw17732804550092665656 tw14451889320364462416 tw3480647943267599983 tw928567506334218021 tw5912407057555188843 tw17796767397041490493 tw11758881986433441483 tw10029141697708129192 tw13748253388458185682 tw2207358132390508596 tw10572937632139567119 tw10288129716601749174 tw8425568123363707310 tw3117014186384756566 tw5794391971966398700 tw3713919009194033472 tw7022135337135160313 tw12155613060932378038 tw1037821904993061240 tw5416411965019018151 tw1368507051799890061 tw16023946667999828034 tw6764217148086091054 tw6158508157620774245 tw9618978131516812672 tw4736233723224563189 tw113056747785314905 tw3728131570669651406 tw7778086906512005105 tw15527382631529452407 tw14685889365425549831 tw14287863260441274490 tw14523976834362996644 tw7355636758983128522 tw17732369800683828957 tw18363869664243586048 tw16393629342615475487 tw3969975204002278945 tw6216511651565395716 tw11389212838148716628 tw14560033815454298015 tw2477644542834176871 tw6517397067134222676 tw16185075954686235695 tw10560107803057106061 tw11250013604637344434 tw2815945862227921310 tw7647110557580853156 tw9969642444157002044 tw10507292081053464017 tw484420824073563054 tw14749681605572782974 tw16362969551582791133 tw3481422357073590876 tw12531069279076477950 tw5367669764010320405 tw9119732049577225851 tw8956032499144878405 tw12741980396711476381 tw3498500677169586787 tw5669758094999052851 tw6105674307367040605 tw408573680187217563 tw11925575574075352085 tw4530805614048307366 tw3017153507745851606 tw8536515583879274734 tw7461775397992615425 tw10787143554659180619 tw8860063488853436084 tw17337221269642922249 tw2853985270707165527 tw4950689829276317733 tw101898831501172442 tw6483000513297677853 tw15759408831302419862 tw3471891164645509879 tw16444503968680998946 tw11108799691367897170 tw17423950680242973526 tw3211256728600732498 tw17930232766691940780 tw3365236211871113813 tw3423316763909877354 tw6294481303902433367 tw4720932456068153118 tw2956345091410003712 tw6692458364771066584 tw17196368438671371677 tw8355865838128954636 tw7366842652825672143 tw7510968289984335645 tw7801710375460123392 tw5534654007935178518 tw4847860571889961564 tw10295394844199254437 tw17624205196807404826 tw1820330763043862816 tw12749759206536729799 tw7044742909638881605 tw1072863093492572547 tw12369083342880522216 tw13326079757273514912 tw4041170289124889674 tw3370294281014472424 tw7759582548700046173 tw8607657040598583307 tw1101482106545818575 tw9843793871301795355 tw2624019409322149955 tw10457120925012691180 tw11539668825219166709 tw10073022707742938679 tw8787491700987184628 tw14721018546266498266 tw7921627380402499063 tw18420630037129765487 tw342013069130651924 tw9749154151157346523 tw9272762304003283898 tw5136003101672886999 tw4273278947950944905 tw12940221702898299061 tw6572750091171382359 tw9146589169941509329 tw12177298819529945596 tw15956773835992927032 tw995719441015567255 tw2363248131213636490 tw3535308517266334290 tw15822938981948784341 tw4003778422521374592 tw15186895738644861372 tw910553504042668581 tw3933881468530293394 tw5078426306114871627 tw16438437546516273164 tw12580515400493613797 tw9765139316958206867 tw12794946715232400820 tw15822363075605331089 tw43180896442320605 tw162705051452920708 tw15906355595601345596 tw146906234466447143 tw2983555627958567748 tw9935566477632002285 tw5597233966368371718 tw1517344363433199644 tw16822201576889574151 tw7952412348452660162 tw8212347114440366844 tw17779533014415673991 tw16151124012276481438 tw17672920803284425428 tw7303023779780303379 tw17244209368345581410 tw11966390720514555643 tw15311938688879408681 tw6199760828411222954 tw11467489294324148255 tw10631482449460176137 tw13085989832718716876 tw9069725886487060755 tw7093652947330086517 tw15621459054637766310 tw1859043900884751504 tw13038928749199033053 tw9341786608340481110 tw6228655325890118008 tw14442115254231825753 tw891100620658495750 tw10074436218099312649 tw522580604644425398 tw15128491160916955507 tw2187467024594838748 tw7603637328854367285 tw13785928237838932071 tw5246827919746451130 tw15728081572101895539 tw10851071884257975363 tw5856010918241070783 tw1532095498718791452 tw12575737177367306881 tw13237968281786303123 tw8417764525826432277 tw4202664491610909199 tw4669551394967749623 tw9084538435460095276 tw13858304521692900124 tw6837905375333304957 tw9616872829832483991 tw1344620441759507199 tw13872834960390945526 tw2778757371857293125 tw17613093748183242237 tw14532467972038780646 tw8730465082371054957 tw14085240663379326605 tw15976491857893623549 tw3633296379013207197 tw18356004676176585668 tw10860673191836318510 tw13891258073001500075 tw10041310758758163396 tw7542211149036461785 tw7250766919140393399 tw13262147237692491991 tw16771032025106005965 tw8233781648360533462 tw7189668825366223946 tw4003346513643006957 tw16319020305035149715 tw13550651195615571508 tw16410273761257730242 tw17046943609805645083 tw16256977882821653015 tw2879635525690555074 tw1021934990858459 tw15046976779437411240 tw16084690355252588225 tw9742725102229004669 tw3507111439549670019 tw9198991820442346674 tw14546097211893808503 tw12191231841348541967 tw7369003032439355766 tw11626794133240404204 tw16867896019713154999 tw17435783098482494741 tw9562574740140466091 tw17926629715177010030 tw3601268073345234407 tw11774742579303886650 tw12857215665505740757 tw551180132466495591 tw588111636928732657 tw16451936939484125274 tw10914441970233151299 tw8154566378391880333 tw10101503292433489576 tw15245995955533902376 tw11516422040121114544 tw15091971833283176860 tw5937913627886977027 tw13973682809980988252 tw1734306335829756386 tw17685895912204777530 tw2169119021528026645 tw7340318570400602557 tw895374395098340281 tw16419117150010267407 tw8111434958070121058 tw1572556363094606951 tw13334421036008662963 tw12661729522866116668 tw15286590050657120438 tw9799200062355747352 tw8232745848044663201 tw17953611458968357958 tw3832894371801848296 tw471152558929045600 tw12016283008233849961 tw15951795716688651569 tw9668380584273265962 tw4977549735099090590 tw10828807139191886951 tw14172088997999489378 tw3861965014548106071 tw11853809679822900535 tw11691182207708173983 tw3945855667428742062 tw1346446359299126522 tw3571066441374002410 tw7404249453644505370 tw3748810722245849931 tw626404457490337813 tw7554036105334716406 tw7544316915895308444 tw7701199926320789474 tw4762653269804699483 tw15516900198167479914 tw13990453172559684976 tw16661064118242912329 tw13921915446493921004 tw13129084187187615727 tw1758523424669201600 tw11267819779268871180 tw97646914531783293 tw3857036189519856264 tw3424592546288454495 tw15403237899967685415 tw17845670823321226056 tw17242079415373612538 tw7720446818674490561 tw17852241357944853753 tw5094985383760614203 tw13347448503306612556 tw12840757780412458540 tw4265671306205749360 tw10162684342835143741 tw6539149523524607810 tw16170278577298069707 tw17164982363350812484 tw4641848809874630392 tw12825091385747436002 tw7630988374433269316 tw10864250971062247517 tw2909232249549263702 tw11620693379279164667 tw8071759936527550679 tw5580797257603341254 tw4275905068782830679 tw13752771530801378345 tw12242659649907936910 tw13066039027319125450 tw10398913706112706370 tw426038427777371535 tw6703939769493344204 tw3892441363908298098 tw10794754310453963913 tw8787629873060852974 tw4796040906628956840 tw4774540293794071787 tw4582100531813385717 tw13644329582609798672 tw18131848418253141856 tw16292066223527501746 tw7847249677362736849 tw14123800373302649500 tw17115345775017100000 tw17171717835138520764 tw14778935629092287726 tw17225538770660324661 tw18025963830840865928 tw2607311483624223212 tw15028248147847168876 tw9811763987341203853 tw16123066271983391017 tw84299099405020866 tw231148889094434330 tw5914692372514601325 tw4634174046664942587 tw9209535774765262304 tw17616726753485402803 tw15494839036405588692 tw9378513563252137758 tw16339558170852394033 tw7395181416998271813 tw10837396125511836750 tw8983413454125164497 tw7707433402348596034 tw7710282179011401857 tw5943995864585704857 tw4643709636142152464 tw7585344363686752365 tw14531409574800100139 tw3657211663625392029 tw13342448579240537503 tw15144483864800079793 tw9635268836042171722 tw8706122606733040355 tw2059535750469283162 tw15505459859511191662 tw5087006953643813417 tw6016612824079559411 tw3218701595699890590 tw14501020038457492747 tw10709581757012119459 tw820364192521903274 tw7893415352802787573 tw13256447131010016959 tw17027728982599297580 tw18327392533990097825 tw11334009730746384791 tw5006535644787477744 tw7299485231440805036 tw5365709057614410767 tw125486968558385987 tw15146731111271694398 tw1682026360899079615 tw5282825533290556741 tw777721725058279899 tw8008999443292244131 tw7241261297250049698 tw4947740400391695759 tw15496974202964621951 tw13649613975691278840 tw6273445515604594761 tw2415990709245314005 tw15940603181200530729 tw15087323210488691001 tw5628406658547136441 tw9552814072731404506 tw9824013771504554079 tw8212254248874523164 tw7862413513185188716 tw14753398323705467231 tw7873008511684465983 tw4809746635194116507 tw13571408350730679109 tw8867262662912065165 tw4409103461059015895 tw18418515575466875160 tw13450602394688748941 tw12915563065143658918 tw15582570268404034269:True)
open PySem PySem.W PyProof.Rows
set_option maxRecDepth 100000 in
set_option maxHeartbeats 0 in
theorem PySem.Challenge.cw_layersplit_k44_whole_nobody_shut_comes_i_holds : PySem.Challenge.rw_layersplit_k44_whole_nobody_shut_comes_i.Holds := by
 w_on;o_law;k_head;(case hw=>w_witness2)
 k_fill
 refine L2.CI (l:=PySem.Challenge.rw_layersplit_k44_whole_nobody_shut_comes_i) (n:=63) (k:=17) (x:="_law_script") (CX:=L2.d0) (sp:=My.C9) rfl (by decide) rfl ⟨rfl,by decide,by decide⟩ (λw h Y=>PySem.W.kIn_of Y) ?F ?S ?C
 case F=>
  intro w mg fa h KX G hmg;have T:∃a:My.f8,My.Txt (L2.KOf KX) mg a/\w.params=a.pm:=by
   dsimp only[L2.KOf]
   refine'⟨My.f8.mk ..,?T,rfl⟩
   case T=>
   constructor
   all_goals try dsimp only
   iterate 19(exact L2.LD KX G (by k_is))
   iterate 41(exact L2.Ia KX G (by k_is) (L2.Aa (by k_is) (by k_is) (by k_is)) (by first|exact L2.b1|exact L2.b2|exact L2.b3|exact L2.b4|exact L2.b5))
   iterate 26(exact L2.Ln (by k_is) (by k_is) (L2.Aa (by k_is) (by k_is) (by k_is)) (by first|exact L2.b1|exact L2.b2|exact L2.b3|exact L2.b4|exact L2.b5))
   iterate 18(exact L2.Ia KX G (by k_is) (L2.Aa (by k_is) (by k_is) (by k_is)) (by first|exact L2.b1|exact L2.b2|exact L2.b3|exact L2.b4|exact L2.b5))
   iterate 2(exact L2.KW KX G (by k_is))
   iterate 12(exact L2.Lv KX G (by k_is))
   iterate 2(exact⟨by k_is,by k_is,by k_is,by k_is⟩)
   iterate 3(exact L2.AT (by k_is))
   iterate 2(exact⟨by k_is,by k_is,by k_is,by k_is⟩)
   iterate 3(exact L2.AT (by k_is))
   iterate 2(exact⟨by k_is,by k_is,by k_is,by k_is⟩)
   iterate 7(exact L2.AT (by k_is))
   iterate 2(exact⟨by k_is,by k_is,by k_is,by k_is⟩)
   iterate 6(exact L2.AT (by k_is))
   iterate 13(exact L2.HX (by k_exc))
   exact⟨by decide,_,_,by k_is,by k_keys⟩
   iterate 10(exact⟨_,by k_is⟩)
   exact L2.Lu (by k_is) (by(repeat(first|exact .nil|refine .cons ⟨_,rfl⟩ ?_))) rfl
   iterate 9(exact L2.Kx (L2.HX (by k_exc)) (by k_is) rfl (by decide))
   iterate 19(exact L2.Kw KX G (by k_is))
  obtain⟨a,T,hw⟩:=T;have e0:=hmg.symm.trans T.law.m;cases e0;exact⟨a.law.d,My.Cb T,λbase kb nb=>My.Jp T hw⟩
 case S=>exactλK H a ns hl hO hS=>My.Ca hl hS
 case C=>exactλ_ _ _ _ z=>z
#print axioms PySem.Challenge.cw_layersplit_k44_whole_nobody_shut_comes_i_holds
