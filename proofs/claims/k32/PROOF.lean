import PyProof.Rows.All
import Wide.All
import OpenK.AllK
import Wide.FinOn
import Lean
import PyProof.EqAt
import PyProof.EqKinds
import PyProof.TupleCall
import PyProof.WalksMore
import PyProof.SetScanFacts
import PyProof.Logic
import PyProof.FactsBase
import PyProof.TableTree
import PyProof.FactsTree
import PyProof.PlainAttrs
import PyProof.DictWalks
import PyProof.SetKind
import PyProof.ForAny
import PyProof.FactsAll.set_1
import PyProof.CollectWalk
import PyProof.WalkLemmas
import PyProof.FactsAll.set_2
import PyProof.Walk
import PyProof.Rows.SortStr
import KE.KRevIter
import KE.KDictList
import KE.KDictLaws
import PyProof.FString
import OpenK.KTop
import PyProof.StrLawsTight
import PyProof.Rows.StrLawsPart
import KE.KIntText
import PyProof.Rows.StrSplitJoin
import PyProof.ZipIter
import KE.IntTextLaws
import KE.KDictOf
import PyProof.AttrMissHeap
import PyProof.EnumMake
import PyProof.EnumFor
import PyProof.Draws
import PyProof.DictItems
import KE.KPairComp
import KE.KSortTup
import PyProof.Rows.SortWalk
import PySem.Challenge.RW_layersplit_k32_points_in_two_arms
set_option Elab.async false
set_option linter.all false
set_option maxRecDepth 100000
set_option compiler.extract_closed false
def a_:=@PySem.wpAny_bind
def b_:=@List.length_map
def c_:=@PySem.Heap.get?_push_of_some
def d_:=@List.getElem?_eq_some_iff
def eH:=@PySem.wpAny_pure
def eN:=@Nat.le_refl
def e_:=@List.mem_of_getElem?
def fx:=@List.getElem?_eq_getElem
def fy:=@PySem.Heap.get?_push_size
def f_:=@List.getElem?_map
def ga:=@List.length_append
def ge:=@if_neg
def gg:=@List.map_append
def gn:=@if_pos
def gV:=@PySem.Heap.lt_size
def g8:=@PySem.sizeLine_eq
def g_:=@List.mem_cons_of_mem
def hA:=@Bool.false_ne_true
def hE:=@List.size_toArray
def hF:=@List.mem_cons_self
def hH:=@List.take_of_length_le
def hQ:=@List.mem_iff_getElem?
def hY:=@Int.natCast_nonneg
def h_:=@Nat.ne_of_lt
def ig:=@List.mem_map
def il:=@decide_eq_true
def ir:=@Option.some.inj
def iA:=@decide_eq_false
def i_:=@of_decide_eq_true
def ji:=@List.length_take
def j1:=@Nat.zero_le
def j2:=@Array.length_toList
def j_:=@Nat.le_trans
def kl:=@List.length_cons
def kt:=@Int.toNat_natCast
def ku:=@List.map_cons
def kw:=@Nat.lt_of_lt_of_le
def k4:=@Bool.and_eq_true
def k_:=@PySem.PassesOwn.never
def lh:=@List.getElem?_eq_none
def lm:=@Nat.ne_of_gt
def l_:=@PySem.wpAny_holding
def md:=@List.length_range
def mo:=@List.mem_append_right
def mu:=@Ne.symm
def m3:=@PySem.wpAny_call_entry
def m_:=@List.not_mem_nil
def ni:=@PySem.Heap.size_push
def nk:=@PySem.wpAny_callSpecial?_slot
def nn:=@Nat.lt_irrefl
def np:=@PySem.wpAny_newObj_type
def n0:=@Nat.succ_pos
def n7:=@List.nodup_append
def n_:=@List.mem_range
def oa:=@PySem.Calls.spliced_cons
def oe:=@List.mem_filter
def oi:=@List.length_eq_zero_iff
def ol:=@List.getElem?_set_ne
def op:=@PySem.wpAny_setField_rec
def ot:=@List.mem_cons
def ov:=@Nat.le_succ
def oD:=@PySem.wpAny_truthy_bool
def o0:=@Sum.inr.inj
def o8:=@List.find?_cons
def o_:=@Int.natCast_pos
def pa:=@PySem.Calls.callWith_builtin
def pu:=@List.getElem?_append_left
def pv:=@List.replicate_succ
def pw:=@List.length_filter_le
def p_:=@PySem.Heap.get?_update_self
def qc:=@PySem.wpAny_seqItems
def qq:=@PySem.wpAny_ite_split
def qr:=@List.append_nil
def qx:=@PySem.wpAny_Call_Name_kw
def q_:=@Nat.lt_of_le_of_lt
def rd:=@PySem.wpAny_field
def ri:=@congrArg
def rk:=@Nat.lt_succ_self
def rl:=@Nat.le_succ_of_le
def rm:=@Nat.le_of_lt
def rr:=@List.take_add_one
def rx:=@List.map_map
def ry:=@PySem.Heap.get?_update_other
def rV:=@PySem.Calls.spliced_nil
def r3:=@List.length_set
def r4:=@Array.getElem?_eq_getElem
def r_:=@List.take_append_drop
def sg:=@Array.getElem?_toList
def si:=@PySem.wpAny_rule
def sm:=@beq_self_eq_true
def so:=@PySem.Calls.evalArgs_plain
def sD:=@PySem.Around.under_plainId
def sT:=@List.ext_getElem?
def s_:=@List.range_succ
def th:=@List.foldl_cons
def to:=@beq_eq_false_iff_ne
def tx:=@PyProof.Rows.callWith_type1
def tA:=@Nat.succ_le_succ
def t0:=@List.getElem?_append_right
def t2:=@List.getD_eq_getElem?_getD
def t4:=@PySem.wpAny_dictEpoch
def t6:=@PySem.codeAny_builtin
def t8:=@Nat.lt_trans
def t_:=@Nat.lt_succ_of_lt
def u1:=@List.mem_append_left
def u6:=@List.foldl_append
def u_:=@List.append_assoc
def vl:=@List.any_cons
def vr:=@PySem.Heap.SameBut.update
def vu:=@Int.mul_le_mul_of_nonneg_left
def v8:=@Int.dvd_sub
def v_:=@PySem.tupleKind_room_in1
def wh:=@PySem.codeAny_mono
def wr:=@PySem.call_meetsIn
def w1:=@List.getElem?_set_self
def w_:=@List.flatMap_singleton
def xn:=@or_false
def x_:=@PySem.plainId_quiet
def yl:=@PySem.wpAny_setState_of
def yn:=@PySem.wpAny_loadPart_at
def y2:=@List.flatten_cons
def y_:=@Nat.pow_le_pow_right
def z3:=@List.take_zero
def z4:=@List.nodup_iff_pairwise_ne
def z7:=@List.mem_of_mem_take
def z8:=@PySem.F.slot_tuple_iterator_next
def z_:=@PySem.wpAny_askSetting
def A_:=@Nat.le_of_not_lt
def B_:=@Nat.le_of_eq
def C1:=@List.getElem?_eq_none_iff
def C2:=@PySem.wpAny_isSubtype_exc
def C_:=@List.map_congr_left
def D2:=@List.flatMap_append
def D_:=@Option.isSome_iff_exists
def E1:=@Option.map_some
def E2:=@PySem.wpAny_pyIter_tuple
def E_:=@List.filter_append
def Fs:=@List.countP_append
def F_:=@Int.emod_lt_of_pos
def G_:=@Bool.false_eq_true
def Ha:=@PySem.wpAny_getItem_str_slice
def H_:=@PySem.wpAny_pyIter_list
def I_:=@PySem.wpAny_Call_method
def J_:=@List.nodup_nil
def K_:=@List.getElem?_inj
def L_:=@Int.dvd_mul_right
def Ms:=@PySem.builtinLookup_eq_fast
def Mt:=@List.length_replicate
def Mu:=@List.getElem?_toArray
def Mv:=@PySem.wpAny_isInstance
def Mw:=@List.mem_reverse
def Mx:=@List.length_drop
def Mz:=@List.getElem_mem
def MA:=@List.all_cons
def MB:=@Int.dvd_trans
def MC:=@Prod.mk.inj
def MD:=@Int.sub_mul
def ME:=@PySem.Heap.get?_push_cases
def MF:=@PySem.wpAny_passesOwn
def MG:=@PySem.wpAny_execs_nil
def MH:=@List.of_mem_zip
def MI:=@Int.emod_nonneg
def MJ:=@PySem.wpAny_setEntries_of
def MK:=@Nat.mul_le_mul_left
def ML:=@List.length_reverse
def MM:=@List.filterMap_cons
def MN:=@PySem.wpAny_typeOf
def MO:=@List.mem_filterMap
def MP:=@List.contains_cons
def MQ:=@Int.fdiv_eq_ediv_of_nonneg
def MR:=@List.mem_or_eq_of_mem_set
def MS:=@Option.some.injEq
def MT:=@List.take_sublist
def MU:=@List.pairwise_map
def MV:=@List.getElem?_set
def MW:=@Int.mul_sub
def MX:=@Int.mul_one
def MY:=@PySem.wpAny_attempt
def MZ:=@List.getElem?_take_of_lt
def M0:=@List.filterMap_cons_none
def M3:=@PySem.AutoSeq1.wpAny_loadPart'
def M5:=@PySem.wpAny_eqBool_str
def M6:=@if_false
def M7:=@Nat.le_max_right
def M8:=@Nat.le_add_right
def M9:=@List.lookup_cons
def M_:=@List.filter_cons_of_pos
def Na:=@List.filter_cons_of_neg
def Nb:=@List.filter_cons
def Nc:=@List.any_eq_true
def Nd:=@PyProof.Rows.F.plain_set_update_loop
def Nf:=@Nat.pow_succ
def Ng:=@Nat.lt_or_ge
def Nh:=@PySem.wpAny_specialOf
def Ni:=@PySem.typeLookup_type
def Nj:=@PySem.post_val_or_str
def Nk:=@Nat.le_max_left
def Nl:=@List.length_nil
def Nm:=@List.forIn_cons
def No:=@PySem.F.slot_zip_next
def Np:=@Bool.eq_iff_iff
def Nq:=@List.filterMap_append
def Nr:=@Int.mul_ediv_add_emod
def Nt:=@PySem.isSubtype_type
def Nu:=@List.Perm.refl
def Nv:=@Int.le_refl
def Nw:=@PySem.Heap.get?_none_of_le
def Nx:=@Int.emod_eq_emod_iff_emod_sub_eq_zero
def Ny:=@List.getElem?_range
def Nz:=@Int.toNat_of_nonneg
def NA:=@List.map_take
def NB:=@PySem.call_meets
def NC:=@List.map_singleton
def ND:=@List.getElem?_drop
def NE:=@PySem.wpAny_sequenceKey
def NF:=@PySem.wpAny_pyIter_slot
def NG:=@if_true
def NH:=@Option.isSome_map
def NI:=@Nat.le_of_lt_succ
def NJ:=@List.Sublist.refl
def NK:=@Int.mul_comm
def NL:=@Int.le_of_lt
def NM:=@Array.toList_push
def NN:=@PyProof.Rows.slot_tuple_getitem
def NO:=@PySem.wpAny_forIn_list
def NP:=@PySem.wpAny_execs_cons
def NQ:=@List.getElem_map
def NR:=@Int.dvd_mul_left
def NS:=@Sum.inl.inj
def NT:=@PySem.wpAny_updateSeq
def NU:=@Nat.not_lt_zero
def NV:=@Nat.le_add_left
def NW:=@List.nodup_cons
def NX:=@List.Perm.of_eq
def NY:=@Int.natCast_add
def NZ:=@PySem.F.args_tuple_iterator_next_1
abbrev N1:=PySem.W.Frag
abbrev N2:=PySem.Value->PySem.Shared->Prop
abbrev N3:=List (PySem.Addr×PySem.Obj)
abbrev N4:=PySem.Str->Option PySem.Value
abbrev N5:=List PySem.Value
abbrev N6:=PySem.Program
abbrev N7:=List PySem.Str
abbrev N8:=List PySem.Expr
abbrev N9:=Array PySem.Value
abbrev N_:=List Nat
abbrev Oa:=List PySem.Addr
abbrev Ob:=List Int
namespace L2
open PySem PySem.Spec PyProof.Rows
abbrev cu:=Sum Int Str
def mZ:cu->Value->Bool|.inl k,v=>Value.isInt k v|.inr x,v=>Value.isStrOf x v
def L9(w:World):cu->Int|.inl k=>hashInt k|.inr x=>hashStr w x
def cK:∀{k:cu}{v:Value},mZ k v=true->(∃i t,k=Sum.inl i/\v=Value.int i t)\/(∃x t,k=Sum.inr x/\v=Value.str x t)|.inl i,v,h=>by obtain⟨t,e⟩:=Value.isInt_shape (k:=i) (v:=v) h;exact .inl ⟨i,t,rfl,e⟩|.inr x,v,h=>by obtain⟨t,e⟩:=Value.isStrOf_shape (x:=x) (v:=v) h;exact .inr ⟨x,t,rfl,e⟩
def vG(i:Int)(t:Tok):mZ (.inl i) (.int i t)=true:=by simp[mZ,Value.isInt]
def vF(x:Str)(t:Tok):mZ (.inr x) (.str x t)=true:=by simp[mZ,Value.isStrOf]
def Jw(a b:Int):decide ((Sum.inl a:cu)=Sum.inl b)=(a==b):=by
 by_cases e:a=b
 ·subst e;simp
 ·have h:¬(Sum.inl a:cu)=Sum.inl b:=λq=>e (NS q);rw[iA h];exact(to.mpr e).symm
def Jt(a b:Str):decide ((Sum.inr a:cu)=Sum.inr b)=decide (a=b):=by
 by_cases e:a=b
 ·subst e;simp
 ·have h:¬(Sum.inr a:cu)=Sum.inr b:=λq=>e (o0 q);rw[iA h,iA e]
def Jv(a:Int)(b:Str):decide ((Sum.inl a:cu)=Sum.inr b)=false:=iA (nofun)
def Ju(a:Str)(b:Int):decide ((Sum.inr a:cu)=Sum.inl b)=false:=iA (nofun)
def aW(prog:N6)(w:World):PySem.KeyKind prog w cu where
 is:=mZ
 hash:=L9 w
 inj:=λv a b g f=>by
  rcases cK g with⟨i,t,rfl,rfl⟩|⟨x,t,rfl,rfl⟩
  ·rcases cK f with⟨j,u,rfl,e⟩|⟨y,u,rfl,e⟩
   ·injection e with c _;rw[c]
   ·exact nomatch e
  ·rcases cK f with⟨j,u,rfl,e⟩|⟨y,u,rfl,e⟩
   ·exact nomatch e
   ·injection e with c _;rw[c]
 byValue:=λk v h=>by rcases cK h with⟨i,t,rfl,rfl⟩|⟨x,t,rfl,rfl⟩<;>rfl
 pyHash:=λd h=>by
  rcases cK d with⟨i,t,rfl,rfl⟩|⟨x,t,rfl,rfl⟩
  ·exact wpAny_pyHash_int h
  ·exact wpAny_pyHash_str h
 eqBool:=λl d h=>by
  rcases cK l with⟨i,t,rfl,rfl⟩|⟨x,t,rfl,rfl⟩
  ·rcases cK d with⟨j,u,rfl,rfl⟩|⟨y,u,rfl,rfl⟩
   ·rw[Jw]at h;exact wpAny_eqBool_int h
   ·rw[Jv]at h;exact SeqAt.EqAt.int_str i t y u _ _ _ _ h
  ·rcases cK d with⟨j,u,rfl,rfl⟩|⟨y,u,rfl,rfl⟩
   ·rw[Ju]at h;exact SeqAt.EqAt.str_int x t j u _ _ _ _ h
   ·rw[Jt]at h;exact M5 h
 «strs»:=λk x t v h=>by
  rcases cK h with⟨i,u,rfl,e⟩|⟨y,u,rfl,e⟩
  ·exact nomatch e
  ·injection e with c _
   subst c
   cases v<;>rfl
def zR(prog:N6)(w:World)(k:cu)(v:Value):(aW prog w).is k v=mZ k v:=rfl
def yt(prog:N6)(w:World)(i:Int)(t:Tok):(aW prog w).is (.inl i) (.int i t)=true:=vG i t
def qM(prog:N6)(w:World)(x:Str)(t:Tok):(aW prog w).is (.inr x) (.str x t)=true:=vF x t
end L2
namespace L2
open PySem PySem.Spec PyProof.Rows
inductive V where|non|bl(b:Bool)|int(i:Int)|str(x:Str)|byt(b:Array UInt8)|flt(b:UInt64)|ref(a:Addr)|ty(n:String)deriving DecidableEq
def aY:V->Value->Prop|.non,u=>u=Value.none|.bl b,u=>u=Value.bool b|.int i,u=>∃t,u=Value.int i t|.str x,u=>∃t,u=Value.str x t|.byt b,u=>∃t,u=Value.bytes b t|.flt b,u=>∃t,u=Value.float b t|.ref a,u=>u=Value.ref a|.ty n,u=>u=Value.type n
abbrev be:List V->List Value->Prop:=Paired aY
theorem be.length(r:be a c):a.length=c.length:=Paired.length r
theorem be.get:∀{a:List V}{c:N5}{i:Nat}{x:V},be a c->a[i]?=some x->∃u,c[i]?=some u/\aY x u|_,_,_,_,.nil,e=>by simp at e|_,_,0,_,.cons r _,e=>by simp at e;subst e;exact⟨_,rfl,r⟩|_,_,i+1,x,.cons _ t,e=>by obtain⟨u,h1,h2⟩:=be.get (i:=i) (x:=x) t (by simpa using e);exact⟨u,by simpa using h1,h2⟩
theorem be.set(r:aY x u):∀{a:List V}{c:N5}(i:Nat),be a c->be (a.set i x) (c.set i u)|_,_,_,.nil=>.nil|_,_,0,.cons _ t=>.cons r t|_,_,i+1,.cons q t=>.cons q (be.set r i t)
theorem be.append:∀{a c:List V}{d e:N5},be a d->be c e->be (a++c) (d++e)|_,_,_,_,.nil,s=>s|_,_,_,_,.cons r t,s=>.cons r (be.append t s)
theorem be.take:∀{a:List V}{c:N5}(n:Nat),be a c->be (a.take n) (c.take n)|_,_,0,_=>.nil|_,_,_+1,.nil=>.nil|_,_,n+1,.cons r t=>.cons r (be.take n t)
theorem be.drop:∀{a:List V}{c:N5}(n:Nat),be a c->be (a.drop n) (c.drop n)|_,_,0,r=>r|_,_,_+1,.nil=>.nil|_,_,n+1,.cons _ t=>be.drop n t
def jK:Option V->Option Value->Prop|some v,some u=>aY v u|none,none=>True|_,_=>False
def KV{a:Type}:List (a×V)->List (a×Value)->Prop:=Paired λ(p:a×V)(q:a×Value)=>p.1=q.1/\aY p.2 q.2
def kV:cu->V|.inl i=>.int i|.inr x=>.str x
inductive HO where|lst(xs:List V)|tup(xs:List V)|dK(kvs:List (cu×V))|dT(kvs:List (List cu×V))|set(S:Int->Bool)(n:Nat)|ins(C dx:Addr)(fs:List (Str×V))|own(x:Addr)|xd(fs:List (Str×V))|met(f x:Addr)|rng(lo hi:Int)|frz(o:Obj)(u:HO)|tbl(ps:N9)|ext(φ:Heap->Prop)
abbrev Hp:=Addr->Option HO
def aJ(H:Hp)(a:Addr)(o:HO):Hp:=λb=>if b=a then some o else H b
def ag:aJ H a o a=some o:=by unfold aJ;rw[gn rfl]
def ao(h:b≠a):aJ H a o b=H b:=by unfold aJ;rw[ge h]
def gU:aJ (aJ H a o) a u=aJ H a u:=by funext b;unfold aJ;split<;>rfl
def K0{H:Hp}{a b:Addr}{o u:HO}(h:H a=some o)(h':H b=some u)(d:o≠u):a≠b:=by intro e;subst e;rw[h]at h';exact d (ir h')
def aH{H:Hp}{a b:Addr}{o:HO}(h:H a=some o)(h':H b=none):a≠b:=by intro e;subst e;rw[h]at h';cases h'
section
variable(P:N6)(w:World)
def dk(H:Hp)(h:Heap)(a:Addr):HO->Prop|.lst d=>d.length<=sizeLine/\∃(b:N5)(n:Nat),be d b/\h.get? a=some {cls:=.type "list",data:=.seq b.toArray n}|.tup d=>d.length<=sizeLine/\∃b:List Value,be d b/\IsTup h a b.toArray|.dK c=>c.length<=sizeLine/\(a==sysModules)=false/\∃g,KV c g/\h.DictOf (aW P w) a g|.dT c=>c.length<=sizeLine/\(a==sysModules)=false/\∃d:List (List cu×Addr×Value),Paired (λ(p:List cu×V)(q:List cu×Addr×Value)=>p.1=q.1/\H q.2.1=some (.tup (p.1.map kV))/\aY p.2 q.2.2) c d/\∃o i j,h.get? a=some o/\o.ExactDict/\o.data=.dict i j/\i.toList=d.map (entryOfKey (tupleKind (aW P w)))/\(d.map (·.1)).Nodup|.set S n=>h.SetOf (intKind P w) a S n|.ins C dx fs=>H dx=some (.own a)/\fs.length<=1000/\dx≠a/\h.get? a=some (PySem.W.instObj C dx)/\∃e,h.Ns1 dx e/\(∀f,jK (fs.lookup f) (e f))/\PySem.Within e (fs.map (·.1))|.own _=>∃o,h.get? a=some o|.xd fs=>∃e,h.Ns1 a e/\∀f,jK (fs.lookup f) (e f)|.rng lo hi=>∃t u v,h.get? a=some {cls:=.type "range",data:=.fields #[.int lo t,.int hi u,.int 1 v]}|.frz o u=>h.get? a=some o/\dk H h a u|.tbl k=>h.get? a=some {cls:=.none,data:=.fields k}|.met f x=>h.get? a=some (PySem.W.methodObj (.ref f) (.ref x))|.ext φ=>φ h/\(∃o,h.get? a=some o)/\∀h1 h2:Heap,φ h1->(∀o,h1.get? a=some o->h2.get? a=some o)->φ h2
def lr(H:Hp)(h:Heap):Prop:=∀a o,H a=some o->dk P w H h a o
end
section
variable{P:N6}{w:World}{H g:Hp}{h h':Heap}{a:Addr}{o:HO}
theorem dk.lt(x:dk P w H h a o):a<h.objs.size:=by cases o with|lst c=>obtain⟨_,_,_,_,e⟩:=x;exact gV e|tup c=>obtain⟨_,_,_,p⟩:=x;exact p.lt|dK b=>obtain⟨_,_,_,_,o,_,_,e,_⟩:=x;exact gV e|dT b=>obtain⟨_,_,_,_,o,_,_,e,_⟩:=x;exact gV e|set S n=>obtain⟨o,_,_,_,e,_⟩:=x;exact gV e|ins C dx fs=>obtain⟨_,_,_,e,_⟩:=x;exact gV e|own y=>obtain⟨_,e⟩:=x;exact gV e|xd fs=>obtain⟨_,⟨_,_,_,e,_⟩,_⟩:=x;exact gV e|rng lo hi=>obtain⟨_,_,_,e⟩:=x;exact gV e|frz ob u=>obtain⟨e,_⟩:=x;exact gV e|tbl d=>exact gV (show h.get? a=some _ from x)|met f y=>exact gV (show h.get? a=some _ from x)|ext φ=>obtain⟨_,⟨_,e⟩,_⟩:=x;exact gV e
theorem Paired.mapP:∀{c:List e}{d:List i},Paired F c d->(∀a b,F a b->G a b)->Paired G c d|_,_,.nil,_=>.nil|_,_,.cons r t,f=>.cons (f _ _ r) (Paired.mapP t f)
def dk.stay(x:dk P w H h a o)(k:∀b u,(b=a\/H b=some (.own a))->h.get? b=some u->h'.get? b=some u)(E:∀b,H b=some (.own a)->g b=some (.own a))(F:∀b m,H b=some (.tup m)->g b=some (.tup m)):dk P w g h' a o:=by induction o with|lst m=>obtain⟨z,l,n,r,e⟩:=x;exact⟨z,l,n,r,k _ _ (.inl rfl) e⟩|tup m=>obtain⟨z,l,r,ob,e,c⟩:=x;exact⟨z,l,r,ob,k _ _ (.inl rfl) e,c⟩|dK s=>obtain⟨z,y,G,r,ob,i,j,e,c⟩:=x;exact⟨z,y,G,r,ob,i,j,k _ _ (.inl rfl) e,c⟩|dT s=>obtain⟨z,y,m,r,ob,i,j,e,c⟩:=x;exact⟨z,y,m,Paired.mapP r λp q z=>⟨z.1,F _ _ z.2.1,z.2.2⟩,ob,i,j,k _ _ (.inl rfl) e,c⟩|set S n=>obtain⟨ob,i,j,t,e,c⟩:=x;exact⟨ob,i,j,t,k _ _ (.inl rfl) e,c⟩|ins C dx fs=>obtain⟨d,z,ne,e,A,⟨B,i,j,I,c⟩,r⟩:=x;exact⟨E _ d,z,ne,k _ _ (.inl rfl) e,A,⟨B,i,j,k _ _ (.inr d) I,c⟩,r⟩|own y=>obtain⟨ob,e⟩:=x;exact⟨ob,k _ _ (.inl rfl) e⟩|xd fs=>obtain⟨A,⟨B,i,j,e,c⟩,r⟩:=x;exact⟨A,⟨B,i,j,k _ _ (.inl rfl) e,c⟩,r⟩|rng lo hi=>obtain⟨t,u,v,e⟩:=x;exact⟨t,u,v,k _ _ (.inl rfl) e⟩|frz ob u J=>obtain⟨e,q⟩:=x;exact⟨k _ _ (.inl rfl) e,J q⟩|tbl D=>have e:h.get? a=some {cls:=.none,data:=.fields D}:=x;show h'.get? a=some {cls:=.none,data:=.fields D};exact k a _ (.inl rfl) e|met f y=>have e:h.get? a=some (PySem.W.methodObj (.ref f) (.ref y)):=x;show h'.get? a=some (PySem.W.methodObj (.ref f) (.ref y));exact k a _ (.inl rfl) e|ext φ=>obtain⟨p,⟨o,e⟩,st⟩:=x;exact⟨st _ _ p λo q=>k _ _ (.inl rfl) q,⟨o,k _ _ (.inl rfl) e⟩,st⟩
theorem lr.lt(x:lr P w H h)(e:H a=some o):a<h.objs.size:=(x a o e).lt
def lr.fresh(x:lr P w H h)(e:h.objs.size<=a):H a=none:=by cases q:H a with|none=>rfl|some u=>exact absurd (kw (x.lt q) e) (nn _)
def lr.kept(x:lr P w H h)(k:∀b u,h.get? b=some u->h'.get? b=some u):lr P w H h':=λa o e=>(x a o e).stay (λb u _ q=>k b u q) (λ_ q=>q) λ_ _ q=>q
def lr.laid(x:lr P w H h)(k:∀b u,h.get? b=some u->h'.get? b=some u)(f:h.objs.size<=a)(new:dk P w (aJ H a o) h' a o):lr P w (aJ H a o) h':=λb u e=>by
 have hn:=x.fresh f
 by_cases d:b=a
 ·subst d;rw[ag]at e;cases e;exact new
 ·rw[ao d]at e;exact(x b u e).stay (λc v _ q=>k c v q) (λc q=>by rw[ao (aH q hn)];exact q) λc i q=>by rw[ao (aH q hn)];exact q
end
def Rd(H:Hp)(a:Addr)(u:HO):Prop:=H a=some u\/∃o,H a=some (.frz o u)
def Rd.ok(r:Rd H a u)(x:lr P w H h):dk P w H h a u:=by
 rcases r with r|⟨o,r⟩
 ·exact x a u r
 ·obtain⟨_,q⟩:=x a _ r;exact q
def Ly:Option HO->Prop|some (.lst _)=>True|some (.dK _)=>True|some (.dT _)=>True|some (.set _ _)=>True|some (.ins _ _ _)=>True|some (.ext _)=>True|_=>False
section
variable{P:N6}{w:World}{H:Hp}{h h':Heap}{x e:Addr}{a:HO}
def lr.write(ok:lr P w H h)(g:Ly (H x))(m:e=x\/H e=some (.own x))(k:∀b u,b≠e->h.get? b=some u->h'.get? b=some u)(l:∃u,h'.get? e=some u)(new:dk P w (aJ H x a) h' x a):lr P w (aJ H x a) h':=λb u q=>by
 have f:∀c y,H c=some (.own y)->c≠x:=λc y r z=>by subst z;rw[r]at g;exact g
 have ntup:∀c i,H c=some (.tup i)->c≠x:=λc i r z=>by subst z;rw[r]at g;exact g
 by_cases j:b=x
 ·subst j;rw[ag]at q;cases q;exact new
 ·rw[ao j]at q
  by_cases d:b=e
  ·have n:H b=some (.own x):=by
    rcases m with z|z
    ·exact absurd (d.trans z) j
    ·rw[d];exact z
   rw[q]at n;cases n;obtain⟨v,o⟩:=l;exact⟨v,by rw[d];exact o⟩
  ·refine(ok b u q).stay (λc v hc r=>k c v ?_ r) (λc r=>by rw[ao (f c b r)];exact r) λc i r=>by rw[ao (ntup c i r)];exact r
   rcases hc with rfl|hc
   ·exact d
   ·rintro rfl;rcases m with z|z
    ·exact f c b hc z
    ·rw[hc]at z;cases z;exact j rfl
end
structure Un(fs ex:Oa)(H H':Hp)(h h':Heap):Prop where
 keep:∀b o,h.get? b=some o->H b=none->b∉fs->b∉ex->h'.get? b=some o
 slot:∀b o,h.get? b=some o->H b=none->b∈fs->b∉ex->∃sl,h'.get? b=some {o with slots:=sl}free:∀b o,h.get? b=some o->H b=none->b∉ex->H' b=none
 there:∀b o,h.get? b=some o->b∉ex->∃o',h'.get? b=some o'
 tups:∀b xs,H b=some (.tup xs)->H' b=some (.tup xs)frzs:∀b o u,H b=some (.frz o u)->H' b=some (.frz o u)tbls:∀b ps,H b=some (.tbl ps)->∃more,H' b=some (.tbl (ps++more))
section
variable{fs f ex c:Oa}{H d g:Hp}{h h1 h2 h':Heap}{a x e:Addr}{o:HO}
def Un.any(u:Un fs ex H d h h1){b:Addr}{ob:Obj}(q:h.get? b=some ob)(n:H b=none)(i:b∉ex):∃sl,h1.get? b=some {ob with slots:=sl}:=by
 by_cases j:b∈fs
 ·exact u.slot b ob q n j i
 ·exact⟨ob.slots,u.keep b ob q n j i⟩
def Un.kept(k:∀b u,h.get? b=some u->h'.get? b=some u):Un fs ex H H h h':=⟨λb ob q _ _ _=>k b ob q,λb ob q _ _ _=>⟨ob.slots,k b ob q⟩,λ_ _ _ n _=>n,λb ob q _=>⟨ob,k b ob q⟩,λ_ _ q=>q,λ_ _ _ q=>q,λ_ i q=>⟨#[],by rw[q];simp⟩⟩
def Un.refl:Un fs ex H H h h:=Un.kept λ_ _ q=>q
def Un.laid(k:∀b u,h.get? b=some u->h'.get? b=some u)(i:h.objs.size<=a)(hn:H a=none):Un fs ex H (aJ H a o) h h' where
 keep:=λb u q _ _ _=>k b u q
 slot:=λb u q _ _ _=>⟨u.slots,k b u q⟩
 free:=λb u q n _=>by rw[ao (h_ (kw (gV q) i))];exact n
 there:=λb u q _=>⟨u,k b u q⟩
 tups:=λb j q=>by rw[ao (aH q hn)];exact q
 frzs:=λb u j q=>by rw[ao (aH q hn)];exact q
 tbls:=λb l q=>⟨#[],by rw[ao (aH q hn),q];simp⟩
def Un.write(j:Ly (H x))(s:e=x\/H e=some (.own x))(k:∀b u,b≠e->h.get? b=some u->h'.get? b=some u)(l:∃u,h'.get? e=some u):Un fs ex H (aJ H x o) h h':=by
 have m:∀b,H b=none->b≠x:=λb n z=>by subst z;rw[n]at j;exact j
 have p:∀b,H b=none->b≠e:=λb n z=>by
  subst z;rcases s with r|r
  ·exact m b n r
  ·rw[n]at r;cases r
 have hm:∀b u,H b=some u->¬Ly (some u)->b≠x:=λb u q nm z=>by subst z;rw[q]at j;exact nm j
 refine⟨λb u q n _ _=>k b u (p b n) q,λb u q n _ _=>⟨u.slots,k b u (p b n) q⟩,λb u q n _=>by rw[ao (m b n)];exact n,λb u q _=>?_,λb t q=>by rw[ao (hm b _ q λz=>z)];exact q,λb u t q=>by rw[ao (hm b _ q λz=>z)];exact q,λb v q=>⟨#[],by rw[ao (hm b _ q λz=>z),q];simp⟩⟩
 by_cases i:b=e
 ·subst i;exact l
 ·exact⟨u,k b u i q⟩
end
def LG(h:Heap)(H:Hp):List Addr:=(List.range h.objs.size).filter λa=>(H a).isSome
def wP(h:Heap)(H:Hp):Heap:=PySem.W.hideAll h (LG h H)
def Cd(h:Heap)(H:Hp):(wP h H).objs.size=h.objs.size:=PySem.W.hideAll_size _ _
def EN(e:h.get? b=some o)(n:H b=none):(wP h H).get? b=some o:=PySem.W.hideAll_get _ e λhm=>by have q:(H b).isSome=true:=(oe.mp hm).2;rw[n]at q;simp at q
def GF(e:(wP h H).get? b=some o):h.get? b=some o/\H b=none:=by have a:h.get? b=some o:=PySem.W.of_hideAll (LG h H) e;refine⟨a,?_⟩;cases q:H b with|none=>rfl|some x=>have hm:b∈LG h H:=oe.mpr ⟨n_.mpr (gV a),by simp[q]⟩;have z:(wP h H).get? b=none:=PySem.W.hideAll_none (LG h H) hm;rw[z]at e;cases e
def Hq(g h:Heap)(L:Addr):List (Addr×Obj):=(List.range h.objs.size).filterMap λa=>if a=L\/(g.get? a).isSome=true then none else(h.get? a).map λo=>(a,o)
def pK(g h:Heap)(L d:Addr):List (Addr×Obj):=(Hq g h L).filter λp=>decide (p.1≠d)
end L2
namespace L2
open PySem PySem.Spec PyProof.Rows
structure Lz(K:N1)(mg:N4)(base:Heap):Prop where
 kin:K.In base
 glob:base.Ns mainGlobals mg
 blt:∃mb,base.Ns builtinsNs mb/\∀x:Str,x≠"__name__"->mb x=bootBuiltins x
 nolimit:base.NoLimit
structure Cx where
 prog:Program
 w:World
 K:N1
 mg:Str->Option Value
 base:Heap
 A:Around
 N:List Str
 s₀:Shared
 H₀:Hp
 env:Env
 outer:List Env
 stack:List Env
 ex:List Addr
 fn:Str->Bool
 calm:Bool
 pn:List (Addr×Obj)xe:Value->Shared->Prop
def jM(l:List Env):List Addr:=l.filterMap (·.frame)
abbrev Cx.fs(X:Cx):List Addr:=jM X.outer
def LL(a:Scope)(x:Str):Prop:=a.names.lookup x=some .local\/a.names.lookup x=some .cell\/a.names.lookup x=some .free
def Kk(a:Scope)(x:Str):Prop:=a.names.lookup x=some .local\/a.names.lookup x=some .cell
def Mn(env:Env)(h:Heap)(m:N4)(x:Str)(u:Value):Prop:=(env.kindOf x=some .local/\m x=some u)\/((env.kindOf x=some .cell\/env.kindOf x=some .free)/\∃c,env.cells.lookup x=some c/\h.IsCell c (some u))
structure Cx.Ok(X:Cx):Prop where
 mod:Lz X.K X.mg X.base
 kind:X.env.scope.kind=.function
 glob:X.env.globals=mainGlobals
 blt:X.env.builtins=builtinsNs
 above:X.s₀.heap.objs.size<=X.env.locals
 inj:∀x y c,X.env.cells.lookup x=some c->X.env.cells.lookup y=some c->x=y
 has:∀x,(X.env.kindOf x=some .cell\/X.env.kindOf x=some .free)->∃c,X.env.cells.lookup x=some c
 cab:∀x c,X.fn x=true->X.env.cells.lookup x=some c->X.s₀.heap.objs.size<=c
 hd:X.calm=true->X.A.handled=none
 frames:X.A.frames=some X.stack
 stk:X.stack=X.outer\/(X.stack=X.env::X.outer/\X.env.frame=some X.env.locals)exf:∀b∈X.ex,b≠X.env.locals/\∀x c,X.env.cells.lookup x=some c->c≠b
 bs:∀b o,X.base.get? b=some o->X.s₀.heap.get? b=some o/\X.H₀ b=none
 bsz:X.base.objs.size<=X.s₀.heap.objs.size
 noex:∀b o,X.base.get? b=some o->b∉X.ex
 exfs:∀b∈X.ex,b∉X.fs
 funs:X.s₀.heap.FunFrames X.base X.outer
 frf:∀b∈X.fs,X.H₀ b=none
structure aN(X:Cx)(pins:N3)(σ:List (Option V))(H:Hp)(s:Shared):Prop where
 ok:X.Ok
 os:s.os=X.s₀.os
 bare:AllBare s.gens
 base:Un X.fs X.ex X.H₀ H X.s₀.heap s.heap
 loc:∃m,s.heap.Ns X.env.locals m/\∀(i:Nat)(x:Str)(v:V),X.N[i]?=some x->σ[i]?=some (some v)->LL X.env.scope x->∃u,aY v u/\Mn X.env s.heap m x u
 cell:∀x c,X.env.cells.lookup x=some c->∃v,s.heap.IsCell c v
 free:H X.env.locals=none
 freeC:∀x c,X.env.cells.lookup x=some c->H c=none
 pin:∀p∈X.pn++pins,s.heap.get? p.1=some p.2/\H p.1=none/\p.1≠X.env.locals/\p.1∉X.fs/\∀v,p.2.data≠.cell v
 hok:lr X.prog X.w H s.heap
 len:σ.length=X.N.length
section
variable{X:Cx}{f:N3}{g:List (Option V)}{H B:Hp}{s:Shared}{h':Heap}
def Cx.Ok.nofr(ok:X.Ok)(e:X.base.get? b=some o):b∉X.fs:=λa=>by have:=(ok.funs.mem a).1;rw[e]at this;cases this
theorem aN.bs(I:aN X f g H s):∀b o,X.base.get? b=some o->s.heap.get? b=some o/\H b=none:=λb o e=>⟨I.base.keep b o (I.ok.bs b o e).1 (I.ok.bs b o e).2 (I.ok.nofr e) (I.ok.noex b o e),I.base.free b o (I.ok.bs b o e).1 (I.ok.bs b o e).2 (I.ok.noex b o e)⟩
def aN.bk(I:aN X f g H s):∀b o,X.base.get? b=some o->s.heap.get? b=some o:=λb o e=>(I.bs b o e).1
theorem aN.mod(I:aN X f g H s):Lz X.K X.mg X.base:=I.ok.mod
def aN.kIn(I:aN X f g H s):X.K.In s.heap:=I.ok.mod.kin.keeps I.bk
def aN.fr(I:aN X f g H s):∃m,Fr X.base X.env.locals s.heap m:=let⟨m,hn,_⟩:=I.loc
 ⟨m,hn,I.bk,j_ I.ok.bsz I.ok.above⟩
theorem aN.lt(I:aN X f g H s):X.env.locals<s.heap.objs.size:=let⟨_,hn,_⟩:=I.loc;hn.lt
def aN.sz(I:aN X f g H s):X.s₀.heap.objs.size<=s.heap.objs.size:=j_ I.ok.above (rm I.lt)
def aN.nofs(I:aN X f g H s)(h:s.heap.objs.size<=a):a∉X.fs:=λb=>by obtain⟨_,o,c,_⟩:=I.ok.funs.mem b;exact absurd (kw (gV c) (j_ I.sz h)) (nn _)
def aN.cne(I:aN X f g H s):∀x c,X.env.cells.lookup x=some c->c≠X.env.locals:=λx c e z=>by obtain⟨v,o,d,hd⟩:=I.cell x c e;obtain⟨m,⟨h,i,j,a,b,_⟩,_⟩:=I.loc;rw[z,a]at d;cases d;rw[b]at hd;cases hd
theorem aN.funs(I:aN X f g H s):s.heap.FunFrames X.base X.outer:=by
 have all:∀(l:List Env),(∀b∈jM l,b∈X.fs)->X.s₀.heap.FunFrames X.base l->s.heap.FunFrames X.base l:=by
  intro l
  induction l with|nil=>intro _ _;trivial|cons env r i=>intro h hl;obtain⟨j,⟨L,o,a,hn,k,hd⟩,m⟩:=hl;have c:L∈X.fs:=h L (by unfold jM;rw[MM,a];exact hF);obtain⟨sl,e⟩:=I.base.slot L o k (I.ok.frf L c) c λz=>I.ok.exfs L z c;exact⟨j,⟨L,_,a,hn,e,hd⟩,i (λb d=>h b (by unfold jM;rw[MM,a];exact g_ _ d)) m⟩
 exact all X.outer (λ_ d=>d) I.ok.funs
theorem aN.stack(I:aN X f g H s):s.heap.FunFrames X.base X.stack:=by
 rcases I.ok.stk with e|⟨e,a⟩
 ·rw[e];exact I.funs
 ·rw[e];obtain⟨m,hn,_⟩:=I.loc;refine .cons (by rw[I.ok.kind];decide) a hn ?_ I.funs;exact Nw (j_ I.ok.bsz I.ok.above)
def aN.stkSub(I:aN X f g H s):∀b∈jM X.stack,b∈X.env.locals::X.fs:=λb a=>by
 rcases I.ok.stk with e|⟨e,c⟩
 ·rw[e]at a;exact g_ _ a
 ·rw[e]at a;unfold jM at a;rw[MM,c]at a;exact a
def aN.stkFree(I:aN X f g H s):∀b∈jM X.stack,H b=none:=λb a=>by
 rcases ot.mp (I.stkSub b a)with e|a
 ·rw[e];exact I.free
 ·obtain⟨_,o,c,_⟩:=I.ok.funs.mem a;exact I.base.free b o c (I.ok.frf b a) λz=>I.ok.exfs b z a
def aN.step{g':Array GenState}{P:Nat}{d':Drawn}{ch:Oa}(I:aN X f g H s)(h:∀b∈ch,(b∈X.ex\/X.s₀.heap.objs.size<=b)/\b≠X.env.locals/\(∀x c,X.env.cells.lookup x=some c->c≠b)/\∀p∈X.pn++f,p.1≠b)(keep:∀b o,b≠X.env.locals->b∉X.fs->b∉ch->s.heap.get? b=some o->H b=none->h'.get? b=some o)(slot:∀b o,b≠X.env.locals->b∈X.fs->b∉ch->s.heap.get? b=some o->H b=none->∃sl,h'.get? b=some {o with slots:=sl})(free:∀b o,b∉ch->s.heap.get? b=some o->H b=none->B b=none)(there:∀b o,b∉ch->s.heap.get? b=some o->∃F,h'.get? b=some F)(tups:∀b C,H b=some (.tup C)->B b=some (.tup C))(frzs:∀b o u,H b=some (.frz o u)->B b=some (.frz o u))(tbls:∀b L,H b=some (.tbl L)->∃G,B b=some (.tbl (L++G)))(ns:∀m,s.heap.Ns X.env.locals m->h'.Ns X.env.locals m)(hok:lr X.prog X.w B h')(hg:AllBare g'):aN X f g B {s with heap:=h',gens:=g',drawn:=d',toks:=P}:=by
 have J:∀b o,X.s₀.heap.get? b=some o->b≠X.env.locals:=λb o e=>h_ (kw (gV e) I.ok.above);have y:∀b o,X.s₀.heap.get? b=some o->b∉X.ex->b∉ch:=λb o e a D=>by
  rcases(h b D).1 with z|z
  ·exact a z
  ·exact absurd (kw (gV e) z) (nn _)
 have j:∀x c,X.env.cells.lookup x=some c->∀v,s.heap.IsCell c v->h'.IsCell c v:=λx c e v⟨o,E,hd⟩=>by
  have t:c∉ch:=λz=>(h c z).2.2.1 x c e rfl
  by_cases hc:c∈X.fs
  ·obtain⟨sl,q⟩:=slot c o (I.cne x c e) hc t E (I.freeC x c e);exact⟨_,q,hd⟩
  ·exact⟨o,keep c o (I.cne x c e) hc t E (I.freeC x c e),hd⟩
 refine⟨I.ok,I.os,hg,⟨λb o e n D a=>?_,λb o e n D a=>?_,λb o e n a=>?_,λb o e a=>?_,λb C e=>tups b C (I.base.tups b C e),λb o C e=>frzs b o C (I.base.frzs b o C e),λb L e=>?_⟩,?_,λx c e=>?_,?_,λx c e=>?_,λp N=>?_,hok,I.len⟩
 ·exact keep b o (J b o e) D (y b o e a) (I.base.keep b o e n D a) (I.base.free b o e n a)
 ·obtain⟨sl,A⟩:=I.base.slot b o e n D a;obtain⟨M,K⟩:=slot b _ (J b o e) D (y b o e a) A (I.base.free b o e n a);exact⟨M,K⟩
 ·obtain⟨F,A⟩:=I.base.there b o e a;exact free b F (y b o e a) A (I.base.free b o e n a)
 ·obtain⟨F,A⟩:=I.base.there b o e a;exact there b F (y b o e a) A
 ·obtain⟨O,A⟩:=I.base.tbls b L e;obtain⟨Q,K⟩:=tbls b _ A;exact⟨O++Q,by rw[K,Array.append_assoc]⟩
 ·obtain⟨m,hn,hl⟩:=I.loc;refine⟨m,ns m hn,λi x v A K R=>?_⟩;obtain⟨u,r,l⟩:=hl i x v A K R;refine⟨u,r,?_⟩;rcases l with l|⟨k,c,e,z⟩
  ·exact .inl l
  ·exact .inr ⟨k,c,e,j x c e _ z⟩
 ·obtain⟨v,z⟩:=I.cell x c e;exact⟨v,j x c e v z⟩
 ·obtain⟨m,⟨o,_,_,E,_⟩,_⟩:=I.loc;exact free _ o (λz=>(h _ z).2.1 rfl) E I.free
 ·obtain⟨v,o,E,hd⟩:=I.cell x c e;exact free c o (λz=>(h c z).2.2.1 x c e rfl) E (I.freeC x c e)
 ·obtain⟨e,n,ne,nf,d⟩:=I.pin p N;have t:p.1∉ch:=λz=>(h p.1 z).2.2.2 p N rfl;exact⟨keep p.1 p.2 ne nf t e n,free p.1 p.2 t e n,ne,nf,d⟩
def aN.un{t':Nat}(I:aN X f g H s)(u:Un X.fs [] H B s.heap h')(hok:lr X.prog X.w B h'):aN X f g B {s with heap:=h',toks:=t'}:=by obtain⟨m,⟨o,l,p,i,r⟩,_⟩:=id I.loc;obtain⟨sl,j⟩:=u.any i I.free (by simp);exact I.step (g':=s.gens) (d':=s.drawn) (ch:=[]) (λ_ z=>nomatch z) (λb o _ c _ e n=>u.keep b o e n c (by simp)) (λb o _ c _ e n=>u.slot b o e n c (by simp)) (λb o _ e n=>u.free b o e n (by simp)) (λb o _ e=>u.there b o e (by simp)) u.tups u.frzs u.tbls (λx hm=>by obtain⟨y,d,h,a,k⟩:=hm;rw[i]at a;cases a;exact⟨_,d,h,j,k⟩) hok I.bare
def aN.call{g':Array GenState}{t':Nat}{d':Drawn}{ch:Oa}(I:aN X f g H s)(u:Un (jM X.stack) ch H B s.heap h')(hok:lr X.prog X.w B h')(hg:AllBare g')(a:∀b∈ch,(b∈X.ex\/X.s₀.heap.objs.size<=b)/\b≠X.env.locals/\(∀x c,X.env.cells.lookup x=some c->c≠b)/\∀p∈X.pn++f,p.1≠b):aN X f g B {s with heap:=h',gens:=g',drawn:=d',toks:=t'}:=by obtain⟨m,⟨o,t,v,k,r⟩,_⟩:=id I.loc;obtain⟨sl,h⟩:=u.any k I.free λz=>(a _ z).2.1 rfl;exact I.step (ch:=ch) a (λb o h l hc e n=>u.keep b o e n (λz=>(ot.mp (I.stkSub b z)).elim h l) hc) (λb o _ _ hc e n=>u.any e n hc) (λb o hc e n=>u.free b o e n hc) (λb o hc e=>u.there b o e hc) u.tups u.frzs u.tbls (λy hm=>by obtain⟨A,i,j,d,q⟩:=hm;rw[k]at d;cases d;exact⟨_,i,j,h,q⟩) hok hg
def aN.turned{t':Nat}{it:Addr}(I:aN X f g H s)(k:∀b o,b≠it->s.heap.get? b=some o->h'.get? b=some o)(hn:H it=none)(d:it≠X.env.locals)(h1:it∈X.ex\/X.s₀.heap.objs.size<=it)(h2:∀x c,X.env.cells.lookup x=some c->c≠it)(h3:∀p∈X.pn++f,p.1≠it):aN X f g H {s with heap:=h',toks:=t'}:=by
 have a:∀b u,H b=some u->b≠it:=λb u e z=>by rw[z,hn]at e;cases e
 refine I.step (g':=s.gens) (d':=s.drawn) (ch:=[it]) (λb h=>?_) (λb o _ _ hc e _=>k b o (λz=>hc (by simp[z])) e) (λb o _ _ hc e _=>⟨o.slots,k b o (λz=>hc (by simp[z])) e⟩) (λ_ _ _ _ n=>n) (λb o hc e=>⟨o,k b o (λz=>hc (by simp[z])) e⟩) (λ_ _ e=>e) (λ_ _ _ e=>e) (λb A e=>⟨#[],by rw[e];simp⟩) (λm hm=>?_) (λb u e=>?_) I.bare
 ·have e:b=it:=by simpa using h
  subst e;exact⟨h1,d,h2,h3⟩
 ·obtain⟨o,i,j,l,r⟩:=hm;exact⟨o,i,j,k _ o (mu d) l,r⟩
 ·refine(I.hok b u e).stay (λc v hc q=>k c v ?_ q) (λ_ q=>q) λ_ _ q=>q;rcases hc with z|z
  ·rw[z];exact a b u e
  ·exact a c _ z
def aN.tok(I:aN X f g H s)(t:Nat):aN X f g H {s with toks:=t}:=I.un (h':=s.heap) (t':=t) Un.refl I.hok
theorem aN.kept(I:aN X f g H s)(k:∀b u,s.heap.get? b=some u->h'.get? b=some u):aN X f g H {s with heap:=h',toks:=t'}:=I.un (Un.kept k) (I.hok.kept k)
theorem aN.laid(I:aN X f g H s)(k:∀b u,s.heap.get? b=some u->h'.get? b=some u)(c:s.heap.objs.size<=a)(new:dk X.prog X.w (aJ H a o) h' a o):aN X f g (aJ H a o) {s with heap:=h',toks:=t'}:=I.un (Un.laid k c (I.hok.fresh c)) (I.hok.laid k c new)
theorem aN.write(I:aN X f g H s)(c:Ly (H x))(d:e=x\/H e=some (.own x))(k:∀b u,b≠e->s.heap.get? b=some u->h'.get? b=some u)(a:∃u,h'.get? e=some u)(new:dk X.prog X.w (aJ H x o) h' x o):aN X f g (aJ H x o) {s with heap:=h',toks:=t'}:=I.un (Un.write c d k a) (I.hok.write c d k a new)
def aN.weak(I:aN X f g H s)(hl:a.length=g.length)(w:∀(i:Nat)v,a[i]?=some (some v)->g[i]?=some (some v)):aN X f a H s:=⟨I.ok,I.os,I.bare,I.base,let⟨m,hn,b⟩:=I.loc;⟨m,hn,λi x v c d e=>b i x v c (w i v d) e⟩,I.cell,I.free,I.freeC,I.pin,I.hok,hl.trans I.len⟩
def aN.pins_of(I:aN X f g H s)(h:∀p∈a,s.heap.get? p.1=some p.2/\H p.1=none/\p.1≠X.env.locals/\p.1∉X.fs/\∀v,p.2.data≠.cell v):aN X a g H s:=⟨I.ok,I.os,I.bare,I.base,I.loc,I.cell,I.free,I.freeC,λp b=>(List.mem_append.mp b).elim (λz=>I.pin p (u1 _ z)) (h p),I.hok,I.len⟩
def yo{N:N7}(c:N.Nodup){i j:Nat}{x:Str}(a:N[i]?=some x)(b:N[j]?=some x):i=j:=by obtain⟨h1,d⟩:=d_.mp a;obtain⟨h2,e⟩:=d_.mp b;exact(List.getElem_inj c).mp (d.trans e.symm)
def vk{M:Model}{A:Around}{E:N2}{i:Nat}{x:Str}{v:V}{u:Value}{Q:Unit->Shared->Prop}(I:aN X f g H s)(hN:X.N.Nodup)(hi:X.N[i]?=some x)(D:Kk X.env.scope x)(r:aY v u)(h:∀Z,aN X f (g.set i (some v)) H Z->(∃a,Heap.SameBut a s.heap Z.heap/\(a=X.env.locals\/X.env.cells.lookup x=some a))->Q () Z)(hf:X.fn x=true\/X.env.scope.names.lookup x=some .local:=by first|exact .inl rfl|exact .inr rfl|assumption):wpAny M A (storeName X.env x u) Q E s:=by
 obtain⟨m,hn,hl⟩:=id I.loc;have P:(X.env.scope.kind==.class||(X.env.scope.kind==.module&&X.env.locals !=X.env.globals))=false:=by rw[I.ok.kind];rfl
 have J:i<g.length:=by rw[I.len];exact(d_.mp hi).1
 have cne:=I.cne;have t:∀{a:Addr}{h':Heap},(∃o,s.heap.get? a=some o/\H a=none)->Heap.SameBut a s.heap h'->lr X.prog X.w H h':=λ{a h'}ha l b ob e=>by
  obtain⟨_,_,F⟩:=ha;refine(I.hok b ob e).stay (λc W hc q=>(l.2 c ?_).trans q) (λ_ q=>q) λ_ _ q=>q;rintro rfl;rcases hc with rfl|hc
  ·rw[F]at e;cases e
  ·rw[F]at hc;cases hc
 rcases D with K|K
 ·refine wpAny_storeName_local K hn (λh' aa l=>?_) P;obtain⟨oL,_,_,ad,_⟩:=id hn;refine h _ ⟨I.ok,I.os,I.bare,⟨λb o e n L D=>?_,λb o e n L D=>?_,I.base.free,λb o e D=>?_,I.base.tups,I.base.frzs,I.base.tbls⟩,⟨_,aa,λj y v' C G e3=>?_⟩,λy c e=>?_,I.free,I.freeC,λp hp=>?_,t ⟨oL,ad,I.free⟩ l,by simpa using I.len⟩ ⟨_,l,.inl rfl⟩
  ·exact(l.2 b (h_ (kw (gV e) I.ok.above))).trans (I.base.keep b o e n L D)
  ·obtain⟨sl,C⟩:=I.base.slot b o e n L D;exact⟨sl,(l.2 b (h_ (kw (gV e) I.ok.above))).trans C⟩
  ·obtain⟨o',C⟩:=I.base.there b o e D;exact⟨o',(l.2 b (h_ (kw (gV e) I.ok.above))).trans C⟩
  ·by_cases hj:j=i
   ·subst hj;rw[hi]at C;cases C;rw[w1 J]at G;cases G;exact⟨u,r,.inl ⟨K,by simp⟩⟩
   ·rw[ol (mu hj)]at G;obtain⟨u',r',q⟩:=hl j y v' C G e3;refine⟨u',r',?_⟩;rcases q with⟨k,e⟩|⟨k,c,e,z⟩
    ·refine .inl ⟨k,?_⟩;have:y≠x:=λe=>hj (yo hN C (e▸hi));simp[this,e]
    ·exact .inr ⟨k,c,e,z.sameBut l (cne y c e)⟩
  ·obtain⟨W,z⟩:=I.cell y c e;exact⟨W,z.sameBut l (cne y c e)⟩
  ·obtain⟨e,n,ne,nf,d⟩:=I.pin p hp;exact⟨(l.2 p.1 ne).trans e,n,ne,nf,d⟩
 ·have O:X.fn x=true:=by
   rcases hf with z|z
   ·exact z
   ·rw[z]at K;cases K
  obtain⟨c,hc⟩:=I.ok.has x (.inl K);obtain⟨W,z⟩:=I.cell x c hc;refine wpAny_storeName_cell I.ok.kind K hc z (λh' R l=>?_);obtain⟨oc,S,T⟩:=id z;refine h {s with heap:=h'} ⟨I.ok,I.os,I.bare,⟨λb o e n L D=>?_,λb o e n L D=>?_,I.base.free,λb o e D=>?_,I.base.tups,I.base.frzs,I.base.tbls⟩,⟨m,hn.sameBut l (mu (cne x c hc)),λj y v' C G e3=>?_⟩,λy Y e=>?_,I.free,I.freeC,λp hp=>?_,t ⟨oc,S,I.freeC x c hc⟩ l,by simpa using I.len⟩ ⟨c,l,.inr hc⟩
  ·exact(l.2 b (h_ (kw (gV e) (I.ok.cab x c O hc)))).trans (I.base.keep b o e n L D)
  ·obtain⟨sl,C⟩:=I.base.slot b o e n L D;exact⟨sl,(l.2 b (h_ (kw (gV e) (I.ok.cab x c O hc)))).trans C⟩
  ·obtain⟨o',C⟩:=I.base.there b o e D;exact⟨o',(l.2 b (h_ (kw (gV e) (I.ok.cab x c O hc)))).trans C⟩
  ·by_cases hj:j=i
   ·subst hj;rw[hi]at C;cases C;rw[w1 J]at G;cases G;exact⟨u,r,.inr ⟨.inl K,c,hc,R⟩⟩
   ·rw[ol (mu hj)]at G;obtain⟨u',r',q⟩:=hl j y v' C G e3;refine⟨u',r',?_⟩;rcases q with q|⟨k,Y,e,z'⟩
    ·exact .inl q
    ·refine .inr ⟨k,Y,e,z'.sameBut l ?_⟩;rintro rfl;exact hj (yo hN C (I.ok.inj _ _ _ e hc▸hi))
  ·by_cases U:Y=c
   ·subst U;exact⟨_,R⟩
   ·obtain⟨w2,z2⟩:=I.cell y Y e;exact⟨w2,z2.sameBut l U⟩
  ·obtain⟨e,n,ne,nf,d⟩:=I.pin p hp;refine⟨(l.2 p.1 ?_).trans e,n,ne,nf,d⟩;intro q;rw[q,S]at e;have q':oc=p.2:=ir e;exact d W (by rw[<-q'];exact T)
def xx(I:aN X f g H s)(c:X.N.Nodup)(hi:X.N[i]?=some x)(d:Kk X.env.scope x)(r:aY v u)(h:∀a,aN X f (g.set i (some v)) H a->Q () a)(e:X.fn x=true\/X.env.scope.names.lookup x=some .local:=by first|exact .inl rfl|exact .inr rfl|assumption):wpAny M A (storeName X.env x u) Q E s:=vk I c hi d r (λa b _=>h a b) e
def aN.call'(I:aN X f g H s)(j:s'.os=s.os)(u:Un (jM X.stack) ch H B s.heap s'.heap)(hok:lr X.prog X.w B s'.heap)(hg:AllBare s'.gens)(a:∀b∈ch,(b∈X.ex\/X.s₀.heap.objs.size<=b)/\b≠X.env.locals/\(∀x c,X.env.cells.lookup x=some c->c≠b)/\∀p∈X.pn++f,p.1≠b):aN X f g B s':=by obtain⟨h',d,h,i,k⟩:=s';have e:k=s.os:=j;subst e;exact I.call (g':=d) (t':=i) (d':=h) u hok hg a
end
abbrev XK:=Value->Option Addr->Hp->Prop
abbrev St:=List (Option V)
abbrev VK:=V->Hp->Prop
abbrev TE:=St->Hp->VK->Prop
abbrev TT:=St->Hp->(Bool->Hp->Prop)->Prop
abbrev TA:=St->Hp->(List V->Hp->Prop)->Prop
structure lq where
 nx:St->Hp->Prop
 rt:VK
 bk:St->Hp->Prop:=λ_ _=>False
 ct:St->Hp->Prop:=λ_ _=>False
abbrev TS:=lq->St->Hp->Prop
def EP(X:Cx)(a:N3)(c:St)(Q:VK)(u:Value)(d:Shared):Prop:=∃v b,aN X a c b d/\aY v u/\Q v b
def TP(X:Cx)(a:N3)(d:St)(Q:Bool->Hp->Prop)(b:Bool)(e:Shared):Prop:=∃c,aN X a d c e/\Q b c
def AP(X:Cx)(a:N3)(d:St)(Q:List V->Hp->Prop)(e:N5)(f:Shared):Prop:=∃b c,aN X a d c f/\be b e/\Q b c
def SP(X:Cx)(c:N3)(D:lq)(f:Flow)(d:Shared):Prop:=match f with|.next=>∃a b,aN X c a b d/\D.nx a b|.brk=>∃a b,aN X c a b d/\D.bk a b|.cont=>∃a b,aN X c a b d/\D.ct a b|.ret u=>∃v a b,aN X c a b d/\aY v u/\D.rt v b
def PE(X:Cx)(e:Expr)(t:TE):Prop:=∀(a:N3)(s:Shared)(b:St)(H:Hp)(Q:VK),aN X a b H s->t b H Q->wpAny (model X.prog X.w) X.A (eval e X.env) (EP X a b Q) X.xe s
def PT(X:Cx)(e:Expr)(t:TT):Prop:=∀(a:N3)(s:Shared)(b:St)(H:Hp)(Q:Bool->Hp->Prop),aN X a b H s->t b H Q->wpAny (model X.prog X.w) X.A (isTrue e X.env (eval e X.env)) (TP X a b Q) X.xe s
def PW(X:Cx)(e:Expr)(t:TT):Prop:=∀(b:Sem Value)(a:N3)(s:Shared)(c:St)(H:Hp)(Q:Bool->Hp->Prop),aN X a c H s->t c H Q->wpAny (model X.prog X.w) X.A (isTrue e X.env b) (TP X a c Q) X.xe s
def PW.pt(h:PW X e t):PT X e t:=h _
def PA(X:Cx)(d:N8)(t:TA):Prop:=∀(b:Pos)(a:N3)(s:Shared)(c:St)(H:Hp)(Q:List V->Hp->Prop),aN X a c H s->t c H Q->wpAny (model X.prog X.w) X.A (spliced (backTo b (starEach d X.env))) (AP X a c Q) X.xe s
def PS(X:Cx)(st:Stmt)(t:TS):Prop:=∀(a:N3)(s:Shared)(b:St)(H:Hp)(D:lq),aN X a b H s->t D b H->wpAny (model X.prog X.w) X.A (exec st X.env) (SP X a D) X.xe s
def uA(X:Cx)(st:List Stmt)(t:TS):Prop:=∀(a:N3)(s:Shared)(b:St)(H:Hp)(D:lq),aN X a b H s->t D b H->wpAny (model X.prog X.w) X.A (execs st X.env) (SP X a D) X.xe s
def cw(h:wpAny M A t Q E s)(c:∀a s,Q a s->d a s):wpAny M A t d E s:=wpAny_mono h c λ_ _ x=>x
end L2
namespace L2
open PySem PySem.Spec PyProof.Rows
section
variable{X:Cx}
def Ik(i:Nat):TE:=λa H Q=>∃v,a[i]?=some (some v)/\Q v H
def tC(v:V):TE:=λ_ H Q=>Q v H
def Ja(j:X.N[i]?=some x)(n:LL X.env.scope x)(hd:(x==("__debug__":Str))=false:=by decide)(g:(x==("__classdict__":Str))=false:=by decide):PE X (.Name x f) (Ik i):=by
 intro d s k H Q I h;obtain⟨v,e,h⟩:=h;obtain⟨m,hn,hl⟩:=I.loc;obtain⟨u,r,l⟩:=hl i x v j e n;have fin:EP X d k Q u s:=⟨v,H,I,r,h⟩;rcases l with⟨b,hm⟩|⟨b,c,hc,a⟩
 ·exact wpAny_Name (wpAny_loadName_local I.ok.kind b hn hm fin) hd
 ·rcases b with b|b
  ·exact wpAny_Name (wpAny_loadName_cell I.ok.kind b hc a fin) hd
  ·exact wpAny_Name (wpAny_loadName_free I.ok.kind b hc a fin g) hd
def ae{i j f}:PE X (.Constant (.int i) j f) (tC (.int i)):=λ_ _ _ H _ I h=>wpAny_Constant_int ⟨.int i,H,I.tok _,⟨_,rfl⟩,h⟩
def dS{b j f}:PE X (.Constant (.bool b) j f) (tC (.bl b)):=λ_ _ _ H _ I h=>Constant_bool ⟨.bl b,H,I,rfl,h⟩
def lO{j f}:PE X (.Constant .none j f) (tC .non):=λ_ _ _ H _ I h=>Constant_none ⟨.non,H,I,rfl,h⟩
def aE{x j f}:PE X (.Constant (.str x) j f) (tC (.str x)):=λ_ _ _ H _ I h=>Calls.Constant_str ⟨.str x,H,I.tok _,⟨_,rfl⟩,h⟩
def Gl(X:Cx)(x:Str):Prop:=X.env.kindOf x=some .globalImplicit
def jx(I:aN X a c H s)(hg:Gl X x)(hm:X.mg x=some u)(h:Q u s)(hd:(x==("__debug__":Str))=false:=by decide):wpAny (model X.prog X.w) X.A (eval (.Name x f) X.env) Q E s:=Calls.Name_function_global I.ok.kind hg (Calls.loadGlobal_global (by rw[I.ok.glob];exact I.mod.glob.keeps I.bk) hm h) hd
def kQ(I:aN X a d H s)(hg:Gl X x)(hm:X.mg x=none)(c:bootBuiltins x=some u)(h:Q u s)(hn:x≠"__name__":=by decide)(hd:(x==("__debug__":Str))=false:=by decide):wpAny (model X.prog X.w) X.A (eval (.Name x f) X.env) Q E s:=by obtain⟨b,h1,h2⟩:=I.mod.blt;exact Calls.Name_function_global I.ok.kind hg (Calls.loadGlobal_builtin (by rw[I.ok.glob];exact I.mod.glob.keeps I.bk) hm (by rw[I.ok.blt];exact h1.keeps I.bk) ((h2 x hn).trans c) h) hd
def AK(hg:Gl X x)(hm:X.mg x=some u)(r:aY v u)(hd:(x==("__debug__":Str))=false:=by decide):PE X (.Name x f) (tC v):=λ_ _ _ H _ I h=>jx I hg hm ⟨v,H,I,r,h⟩ hd
def GB{x:Str}{v:V}{u:Value}{f:Pos}(hg:Gl X x)(hm:X.mg x=none)(a:bootBuiltins x=some u)(r:aY v u)(hn:x≠"__name__":=by decide)(hd:(x==("__debug__":Str))=false:=by decide):PE X (.Name x f) (tC v):=λ_ _ _ H _ I h=>kQ I hg hm a ⟨v,H,I,r,h⟩ hn hd
variable{a b:Expr}{g p:TE}{f:Pos}
def PC(X:Cx)(h:CmpOp)(a b:Expr)(t:TE):Prop:=∀(c:N3)(s:Shared)(e:St)(H:Hp)(Q:VK),aN X c e H s->t e H Q->wpAny (model X.prog X.w) X.A (eval a X.env) (λv s₁=>wpAny (model X.prog X.w) X.A (eval b X.env) (λu d=>wpAny (model X.prog X.w) X.A (compareOp h v u) (EP X c e Q) X.xe d) X.xe s₁) X.xe s
def tB(t:TE):TT:=λd H Q=>t d H λx e=>∃c,x=.bl c/\Q c e
def nz(h:PC X i a b t)(h1:behindInMarks i b=false:=by first|exact nobehind _ (by decide) (by decide)|rfl):PT X (.Compare a [i] [b] f) (tB t):=by intro e s j H Q I k;refine wpAny_isTrue_Compare1 (cw (h e s j H _ I k) λv o h1=>cw h1 λu r h2=>cw h2 λc w⟨x,l,I1,m,n⟩=>?_) h1;obtain⟨d,rfl,q⟩:=n;cases m;exact oD ⟨l,I1,q⟩
variable{n o:TT}{pK:N8}
def LZ(t u:TT):TT:=λd H Q=>t d H λc e=>if c=true then u d e Q else Q false e
def tOr(t u:TT):TT:=λd H Q=>t d H λc e=>if c=true then Q true e else u d e Q
def LU(t:TT):TT:=λd H Q=>t d H λc e=>Q (!c) e
def iw(i:PT X a n):PW X (.BoolOp .And [a] f) n:=by intro k d s j H Q I h;refine isTrue_and (cw (i d s j H Q I h) λc l e=>?_);cases c with|true=>exact isTrue_and_nil e|false=>exact e
def dI(i:PT X a n):PW X (.BoolOp .Or [a] f) n:=by intro k d s j H Q I h;refine isTrue_or (cw (i d s j H Q I h) λc l e=>?_);cases c with|false=>exact isTrue_or_nil e|true=>exact e
def kL(l:PT X a n)(m:PW X (.BoolOp .And (b::pK) f) o):PW X (.BoolOp .And (a::b::pK) f) (LZ n o):=by intro k d s e H Q I h;refine isTrue_and (cw (l d s e H _ I h) λc q r=>?_);obtain⟨i,I1,j⟩:=r;cases c with|true=>exact m k d q e i Q I1 j|false=>exact⟨i,I1,j⟩
def fm(l:PT X a n)(m:PW X (.BoolOp .Or (b::pK) f) o):PW X (.BoolOp .Or (a::b::pK) f) (tOr n o):=by intro k d s e H Q I h;refine isTrue_or (cw (l d s e H _ I h) λc q r=>?_);obtain⟨i,I1,j⟩:=r;cases c with|true=>exact⟨i,I1,j⟩|false=>exact m k d q e i Q I1 j
def bV(e:PT X a n):PT X (.UnaryOp .Not a f) (LU n):=by intro d s i H Q I h;exact isTrue_not (e d s i H (λc j=>Q (!c) j) I h)
def KB(g p:TE):TE:=λd H Q=>g d H λx e=>∃c,x=.bl c/\if c=true then p d e Q else Q (.bl false) e
def LT(g p:TE):TE:=λd H Q=>g d H λx e=>∃c,x=.bl c/\if c=true then Q (.bl true) e else p d e Q
def Ku(g:TE):TE:=λd H Q=>g d H λx e=>∃c,x=.bl c/\Q (.bl (!c)) e
def dn{d}(h:PE X a t):PE X (.BoolOp d [a] f) t:=λc s e H Q I i=>BoolOp_one (h c s e H Q I i)
def cr(l:PE X a g)(m:PE X (.BoolOp .And (b::pK) f) p):PE X (.BoolOp .And (a::b::pK) f) (KB g p):=by intro d s i H Q I h;refine BoolOp_and (cw (l d s i H _ I h) λv k q=>?_);obtain⟨x,j,I1,r,e⟩:=q;obtain⟨c,rfl,e⟩:=e;cases r;refine oD ?_;cases c with|true=>exact m d k i j Q I1 e|false=>exact⟨.bl false,j,I1,rfl,e⟩
def KW(l:PE X a g)(m:PE X (.BoolOp .Or (b::pK) f) p):PE X (.BoolOp .Or (a::b::pK) f) (LT g p):=by intro d s i H Q I h;refine BoolOp_or (cw (l d s i H _ I h) λv k q=>?_);obtain⟨x,j,I1,r,e⟩:=q;obtain⟨c,rfl,e⟩:=e;cases r;refine oD ?_;cases c with|false=>exact m d k i j Q I1 e|true=>exact⟨.bl true,j,I1,rfl,e⟩
def zH(i:PE X a g):PE X (.UnaryOp .Not a f) (Ku g):=by intro d s j H Q I h;refine UnaryOp_ (cw (i d s j H _ I h) λv q k=>?_);obtain⟨x,l,I1,m,e⟩:=k;obtain⟨c,rfl,e⟩:=e;cases m;exact not_of (oD ⟨.bl (!c),l,I1,rfl,e⟩)
end
end L2
namespace L2
open PySem PySem.Spec PyProof.Rows
def aX(K:N1)(H:Hp)(a:Addr)(c:List V):Prop:=Rd H a (.lst c)\/∃(o:Obj)(b:N9)(n:Nat),K.lookup a=some o/\o.cls=.type "list"/\o.dict=none/\o.data=.seq b n/\b.size<=sizeLine/\be c b.toList
def bd(K:N1)(H:Hp)(a:Addr)(c:List V):Prop:=Rd H a (.tup c)\/∃(o:Obj)(b:N9)(n:Nat),K.lookup a=some o/\o.cls=.type "tuple"/\o.data=.seq b n/\b.size<=sizeLine/\be c b.toList
def Mg:Value->Option V|.none=>some .non|.bool b=>some (.bl b)|.int i _=>some (.int i)|.str x _=>some (.str x)|.bytes b _=>some (.byt b)|.float b _=>some (.flt b)|.ref a=>some (.ref a)|.type n=>some (.ty n)|_=>none
def aY.abs(r:aY x u):Mg u=some x:=by cases x with|non=>cases r;rfl|bl _=>cases r;rfl|int _=>obtain⟨t,rfl⟩:=r;rfl|str _=>obtain⟨t,rfl⟩:=r;rfl|byt _=>obtain⟨t,rfl⟩:=r;rfl|flt _=>obtain⟨t,rfl⟩:=r;rfl|ref _=>cases r;rfl|ty _=>cases r;rfl
def aY.inj(r:aY x u)(q:aY y u):x=y:=ir (r.abs.symm.trans q.abs)
theorem be.inj:∀{a c:List V}{d:N5},be a d->be c d->a=c|_,_,_,.nil,.nil=>rfl|_,_,_,.cons r t,.cons b e=>by rw[r.inj b,be.inj t e]
section
variable{X:Cx}{c:N3}{f:St}{H:Hp}{s:Shared}{a:Addr}{xs g:List V}
def aX.of{K:N1}(h:H a=some (.lst xs)):aX K H a xs:=.inl (.inl h)
def bd.of{K:N1}(h:H a=some (.tup xs)):bd K H a xs:=.inl (.inl h)
def aN.list(I:aN X c f H s)(h:aX X.K H a xs):∃d:List Value,be xs d/\PlainL s.heap a d.toArray/\xs.length<=sizeLine:=by
 rcases h with h|⟨o,d,n,b,hc,hd,i,hz,r⟩
 ·obtain⟨z,d,n,r,e⟩:=h.ok I.hok;exact⟨d,r,⟨_,n,e,rfl,rfl,rfl⟩,z⟩
 ·refine⟨d.toList,r,⟨o,n,I.kIn a o b,hc,hd,by simpa using i⟩,?_⟩;have e:=r.length;simp only[j2]at e;lia
def aN.tuple(I:aN X c f H s)(h:bd X.K H a xs):∃d:List Value,be xs d/\IsTup s.heap a d.toArray/\xs.length<=sizeLine:=by
 rcases h with h|⟨o,d,n,b,hc,i,hz,r⟩
 ·obtain⟨z,d,r,p⟩:=h.ok I.hok;exact⟨d,r,p,z⟩
 ·refine⟨d.toList,r,⟨o,I.kIn a o b,hc,n,by simpa using i⟩,?_⟩;have e:=r.length;simp only[j2]at e;lia
def aN.list_inj(I:aN X c f H s)(h:aX X.K H a xs)(h':aX X.K H a g):xs=g:=by
 obtain⟨i,r,⟨o,n,e,_,_,d⟩,_⟩:=I.list h;obtain⟨b,l,⟨p,q,j,_,_,k⟩,_⟩:=I.list h';rw[e]at j;cases j;rw[d]at k;injection k with m _;have:i=b:=by simpa using ri Array.toList m
 subst this;exact r.inj l
def aN.tuple_inj(I:aN X c f H s)(h:bd X.K H a xs)(h':bd X.K H a g):xs=g:=by
 obtain⟨i,r,⟨o,e,_,n,d⟩,_⟩:=I.tuple h;obtain⟨b,l,⟨p,j,_,q,k⟩,_⟩:=I.tuple h';rw[e]at j;cases j;rw[d]at k;injection k with m _;have:i=b:=by simpa using ri Array.toList m
 subst this;exact r.inj l
end
abbrev Cx.wish(X:Cx)(E:N2):Cx:={X with xe:=E}
abbrev Cx.nox(X:Cx):Cx:=X.wish λ_ _=>False
theorem Cx.Ok.wish{X:Cx}(ok:X.Ok)(E:N2):(X.wish E).Ok:=⟨ok.mod,ok.kind,ok.glob,ok.blt,ok.above,ok.inj,ok.has,ok.cab,ok.hd,ok.frames,ok.stk,ok.exf,ok.bs,ok.bsz,ok.noex,ok.exfs,ok.funs,ok.frf⟩
def Cx.Ok.unwish{X:Cx}{E:N2}(ok:(X.wish E).Ok):X.Ok:=⟨ok.mod,ok.kind,ok.glob,ok.blt,ok.above,ok.inj,ok.has,ok.cab,ok.hd,ok.frames,ok.stk,ok.exf,ok.bs,ok.bsz,ok.noex,ok.exfs,ok.funs,ok.frf⟩
section
variable{X:Cx}{a:N3}{c:St}{H:Hp}{s:Shared}{E:N2}
theorem aN.wish(I:aN X a c H s)(E:N2):aN (X.wish E) a c H s:=⟨I.ok.wish E,I.os,I.bare,I.base,I.loc,I.cell,I.free,I.freeC,I.pin,I.hok,I.len⟩
theorem aN.unwish(I:aN (X.wish E) a c H s):aN X a c H s:=⟨I.ok.unwish,I.os,I.bare,I.base,I.loc,I.cell,I.free,I.freeC,I.pin,I.hok,I.len⟩
theorem SP.unwish(h:SP (X.wish E) a D f e):SP X a D f e:=by cases f with|next=>obtain⟨b,d,I,q⟩:=h;exact⟨b,d,I.unwish,q⟩|brk=>obtain⟨b,d,I,q⟩:=h;exact⟨b,d,I.unwish,q⟩|cont=>obtain⟨b,d,I,q⟩:=h;exact⟨b,d,I.unwish,q⟩|ret u=>obtain⟨v,b,d,I,r,q⟩:=h;exact⟨v,b,d,I.unwish,r,q⟩
theorem uA.nox{st:List Stmt}{t:TS}(h:uA X.nox st t):uA X st t:=λa s c H D I b=>wpAny_mono (h a s c H D (I.wish _) b) (λ_ _ q=>q.unwish) λ_ _ z=>False.elim z
end
section
variable{X:Cx}{st:Stmt}{pK:List Stmt}{t u:TS}{e:Expr}{te:TE}{g:Pos}
def xv:TS:=λD a H=>D.nx a H
def CL(t u:TS):TS:=λD a H=>t {D with nx:=u D} a H
def aC:uA X [] xv:=λ_ _ a H _ I h=>MG ⟨a,H,I,h⟩
def af(h1:PS X st t)(h2:uA X pK u):uA X (st::pK) (CL t u):=by intro a s c H D I h;refine NP (cw (h1 a s c H {D with nx:=u D} I h) λf d q=>?_);cases f with|next=>obtain⟨b,i,j,q⟩:=q;exact h2 a d b i D j q|ret v=>exact q|brk=>exact q|cont=>exact q
def ah(h1:PS X st t):uA X [st] t:=by intro a s b H D I h;refine NP (cw (h1 a s b H D I h) λf c q=>?_);cases f with|next=>exact MG q|ret v=>exact q|brk=>exact q|cont=>exact q
def aN.quiet(I:aN X a c H s):interactive X.env=false:=by simp[interactive,I.ok.kind]
def HB(te:TE):TS:=λD a H=>te a H λ_ b=>D.nx a b
def aR(c:PE X e te)(d:swapsWith e none g.line X.env=pure false:=by rfl):PS X (.Expr e g) (HB te):=by intro a s b H D I h;exact wpAny_Expr_any (cw (c a s b H _ I h) λv j⟨x,f,I1,k,i⟩=>⟨b,f,I1,i⟩) I.quiet d
def Ks(te:TE):TS:=λD a H=>te a H D.rt
def az(c:PE X e te):PS X (.Return (some e) g) (Ks te):=by intro a s b H D I h;refine wpAny_Return_some (cw (c a s b H _ I h) λv k d=>?_);obtain⟨x,f,I1,i,j⟩:=d;exact⟨x,b,f,I1,i,j⟩
def FK(c:TT)(t u:TS):TS:=λD a H=>c a H λb d=>if b=true then t D a d else u D a d
def aL(hc:PT X c tc)(m:uA X a t)(n:uA X b u):PS X (.If c a b g) (FK tc t u):=by intro f s i H D I h;refine wpAny_If (cw (hc f s i H _ I h) λd j o=>?_);obtain⟨k,I1,l⟩:=o;cases d with|true=>exact m f j i k D I1 l|false=>exact n f j i k D I1 l
def Io:TS:=λ_ _ _=>False
def cx:PS X st Io:=λ_ _ _ _ _ _ h=>h.elim
end
abbrev TG:=V->St->Hp->(St->Hp->Prop)->Prop
abbrev Kh:=List V->St->Hp->(St->Hp->Prop)->Prop
def PG(X:Cx)(a:Expr)(t:TG):Prop:=∀(b:N3)(s:Shared)(d:St)(H:Hp)(v:V)(u:Value)(Q:St->Hp->Prop),aN X b d H s->aY v u->t v d H Q->wpAny (model X.prog X.w) X.A (assign a X.env u) (λ_ f=>∃c e,aN X b c e f/\Q c e) X.xe s
def J0(X:Cx)(g:N8)(t:Kh):Prop:=∀(a:N3)(s:Shared)(c:St)(H:Hp)(d:List V)(e:N5)(Q:St->Hp->Prop),aN X a c H s->be d e->t d c H Q->wpAny (model X.prog X.w) X.A (assignInOrder ((assignEach g X.env).map (·.2)) e) (λ_ h=>∃b f,aN X a b f h/\Q b f) X.xe s
abbrev Hs:=V->V->V->Hp->(Hp->Prop)->Prop
def Hv(X:Cx)(t:Hs):Prop:=∀(a:N3)(s:Shared)(b:St)(H:Hp)(o i v:V)(c iv u:Value)(Q:Hp->Prop),aN X a b H s->aY o c->aY i iv->aY v u->t o i v H Q->wpAny (model X.prog X.w) X.A (setItem c iv u) (λ_ e=>∃d,aN X a b d e/\Q d) X.xe s
section
variable{X:Cx}{c:Pos}
def ld(i:Nat):TG:=λv a H Q=>Q (a.set i (some v)) H
def wz(d:X.N.Nodup)(hi:X.N[i]?=some x)(e:Kk X.env.scope x)(f:X.fn x=true\/X.env.scope.names.lookup x=some .local:=by first|exact .inl rfl|exact .inr rfl|assumption):PG X (.Name x c) (ld i):=by intro a s g H v u Q I r h;exact wpAny_assign_Name (xx I d hi e r (λj b=>⟨_,H,b,h⟩) f)
def Ln:Kh:=λa b H Q=>a=[]/\Q b H
def ET(t:TG)(u:Kh):Kh:=λb d H Q=>∃v r,b=v::r/\t v d H λa e=>u r a e Q
def iC:J0 X [] Ln:=by intro a s b H d f Q I r h;obtain⟨e,h⟩:=h;subst e;cases r;exact assignInOrder_nil ⟨b,H,I,h⟩
def ca(h1:PG X e t)(h2:J0 X d u)(f:(assignEach (e::d) X.env).map (·.2)=assign e X.env::(assignEach d X.env).map (·.2):=by rfl):J0 X (e::d) (ET t u):=by intro a s g H o p Q I r h;obtain⟨v,q,i,h⟩:=h;subst i;cases r with|cons r j=>rw[f];refine assignInOrder_cons (cw (h1 a s g H _ _ _ I r h) λ_ k l=>?_);obtain⟨b,m,I1,n⟩:=l;exact h2 a k b m _ _ Q I1 j n
def JE(K:N1)(n:Nat)(t:Kh):TG:=λv d H Q=>∃a b,v=.ref a/\bd K H a b/\b.length=n/\t b d H Q
def I0(hc:X.calm=true)(h:J0 X f t)(hn:(assignEach f X.env).length=n:=by rfl)(g:(assignEach f X.env).findIdx? (·.1)=none:=by rfl):PG X (.Tuple f k c) (JE X.K n t):=by intro d s j H v u Q I r i;obtain⟨a,m,p,q,hl,i⟩:=i;subst p;cases r;obtain⟨w,l,x,hz⟩:=I.tuple q;refine assign_Tuple_tuple (I.ok.hd hc) x (by simp[hn,<-hl,l.length]) g λh' y=>?_;have I1:aN X d j H {s with heap:=h'}:=I.kept (t':=s.toks) λb o e=>y b o (h_ (gV e)) e;exact h d _ j H m _ Q I1 (by simpa using l) i
def Mc(d e:TE)(t:Hs):TG:=λv a H Q=>d a H λo b=>e a b λi f=>t o i v f λg=>Q a g
def kN(f:PE X o g)(hi:PE X i j)(l:Hv X t)(m:∀v,assign (.Subscript o i c) X.env v=(do
   let d<-holding [v] (eval o X.env)let iv<-holding [v,d] (eval i X.env)standAt c
   holding [v,d,iv] (setItem d iv v)release [v,d,iv] []):=by intro _;rfl):PG X (.Subscript o i c) (Mc g j t):=by intro a s e H v u Q I r h;rw[m];refine a_ (l_ (cw (f a s e H _ I h) λd k b=>?_));obtain⟨x,n,I1,p,q⟩:=b;refine a_ (l_ (cw (hi a k e n _ I1 q) λiv w b=>?_));obtain⟨y,z,A,r2,B⟩:=b;refine a_ (wpAny_standAt (a_ (l_ (cw (l a w e z x y v d iv u _ A p r2 r B) λ_ F b=>?_))));obtain⟨C,D,E⟩:=b;exact wpAny_release ⟨e,C,D,E⟩
def zq(te:TE)(g:TG):TS:=λD a H=>te a H λx b=>g x a b D.nx
def kM(f:PE X e te)(hg:PG X d g)(i:swapsWithSole [d] e c.line X.env=pure false:=by rfl)(j:swappedStores [d] e X.env=pure none:=by rfl)(h1:(assignEach [d] X.env).map (·.2)=[assign d X.env]:=by rfl):PS X (.Assign [d] e c) (zq te g):=by intro a s b H D I h;refine wpAny_Assign_stores (cw (f a s b H _ I h) λv k⟨x,l,I1,m,n⟩=>?_) i j;rw[h1];exact cw (hg a k b l x v _ I1 m n) λ_ o q=>q
def nA(d:X.N.Nodup)(hi:X.N[i]?=some x)(f:Kk X.env.scope x)(g:PE X e te)(j:swapsWith e (some (.Name x a)) c.line X.env=pure false:=by rfl)(l:X.fn x=true\/X.env.scope.names.lookup x=some .local:=by first|exact .inl rfl|exact .inr rfl|assumption):PS X (.Assign [.Name x a] e c) (zq te (ld i)):=by intro b s k H D I h;refine wpAny_Assign_Name (cw (g b s k H _ I h) λv q⟨y,m,I1,n,o⟩=>?_) j;exact xx I1 d hi f n (λr p=>⟨_,m,p,o⟩) l
end
section
variable{X:Cx}{a:Pos}
end
structure It where
 go:Nat->Hp->Prop
 yld:Nat->Hp->V->Hp->Prop
 stop:Nat->Hp->Prop
def u9(X:Cx)(a:N3)(H:Hp)(b:Addr):Prop:=H b=none/\b≠X.env.locals/\b∉X.fs/\(b∈X.ex\/X.s₀.heap.objs.size<=b)/\(∀x c,X.env.cells.lookup x=some c->c≠b)/\∀p∈X.pn++a,p.1≠b
def aN.fpOk(I:aN X a h H s)(d:s.heap.objs.size<=b)(hn:f b=none):u9 X a f b:=by
 refine⟨hn,lm (kw I.lt d),I.nofs d,.inr (j_ I.sz d),λx c e z=>?_,λp g z=>?_⟩
 ·obtain⟨v,q⟩:=I.cell x c e;exact absurd (kw q.lt (by rw[z];exact d)) (nn _)
 ·exact absurd (kw (gV (I.pin p g).1) (by rw[z];exact d)) (nn _)
structure u7(P:N6)(w:World)(K:N1)(tg:Expr)(J:It)(fp:Oa)(it:Addr)(tn:Nat->Heap->Prop):Prop where
 mem:it∈fp
 obj:∀i h,tn i h->∀b∈fp,∃o,h.get? b=some o/\∀v,o.data≠.cell v
 keep:∀i h h',tn i h->(∀b∈fp,∀o,h.get? b=some o->h'.get? b=some o)->tn i h'
 item:∀(X:Cx),X.prog=P->X.w=w->X.K=K->X.calm=true->∀(i:Nat)(pins:N3)(s:Shared)(σ:St)(H:Hp)(E:N2),aN X pins σ H s->(∀b∈fp,u9 X pins H b)->tn i s.heap->J.go i H->wpAny (model P w) X.A (pyNext (.ref it)) (λr s1=>∃u,r=some u/\wpAny (model P w) X.A (letOwnedTupleGo tg (.ref it) u) (λ_ s2=>∃x H',aN X pins σ H' s2/\aY x u/\J.yld i H x H'/\tn (i+1) s2.heap/\∀b∈fp,H' b=none) E s1) E s
 done:∀(X:Cx),X.prog=P->X.w=w->X.K=K->X.calm=true->∀(i:Nat)(pins:N3)(s:Shared)(σ:St)(H:Hp)(E:N2),aN X pins σ H s->(∀b∈fp,u9 X pins H b)->tn i s.heap->J.stop i H->wpAny (model P w) X.A (pyNext (.ref it)) (λr s1=>r=none/\aN X pins σ H s1) E s
 self:∀(A:Around)(i:Nat)(s:Shared)(Q:N2)(E:N2),tn i s.heap->Q (.ref it) s->wpAny (model P w) A (pyIter (.ref it)) Q E s
abbrev TI:=St->Hp->(It->Hp->Prop)->Prop
def Ml(X:Cx)(a:N3)(g:St)(h:Expr)(R:It->Hp->Prop)(c:Value)(e:Shared):Prop:=∃(f:Addr)(fp:Oa)(tn:Nat->Heap->Prop)(J:It)(d:Hp),c=.ref f/\aN X a g d e/\u7 X.prog X.w X.K h J fp f tn/\tn 0 e.heap/\(∀b∈fp,u9 X a d b)/\R J d
def PI(X:Cx)(d c:Expr)(e:TI):Prop:=∀(a:N3)(s:Shared)(b:St)(H:Hp)(R:It->Hp->Prop),aN X a b H s->e b H R->wpAny (model X.prog X.w) X.A (eval c X.env) (λv f=>wpAny (model X.prog X.w) X.A (pyIter v) (Ml X a b d R) X.xe f) X.xe s
def vI(c:s.heap.get? d=some o)(hc:o.cls=.type n)(hd:o.data=.fields e)(hn:["enumerate","zip","dict_itemiterator","dict_reverseitemiterator","odict_iterator","itertools.zip_longest","itertools.pairwise"].contains n=false)(a:Q () s):wpAny M A (letOwnedTupleGo f (.ref d) u) Q E s:=by unfold letOwnedTupleGo;cases f<;>first|exact eH a|(cases u<;>first
 |exact eH a
    |(refine a_ (wpAny_load c ?_)
      rw[hc,hd];show wpAny M A (if(["enumerate","zip","dict_itemiterator","dict_reverseitemiterator","odict_iterator","itertools.zip_longest","itertools.pairwise"].contains n&&e[0]?==some (rawInt _))=true then _ else _) Q E s;rw[ge (by intro h;rw[hn,Bool.false_and]at h;cases h)];exact eH a))
def HZ(K:N1)(a:Addr):It:=⟨λi H=>∃b x,aX K H a b/\b[i]?=some x,λi H x c=>c=H/\∀b,aX K H a b->b[i]?=some x,λi H=>∃b,aX K H a b/\b.length<=i⟩
def HY(K:N1)(a:Addr):It:=⟨λi H=>∃b x,bd K H a b/\b[i]?=some x,λi H x c=>c=H/\∀b,bd K H a b->b[i]?=some x,λi H=>∃b,bd K H a b/\b.length<=i⟩
def FB(lo:Int)(n:Nat):It:=⟨λi _=>i<n,λi H x a=>a=H/\x=.int (lo+i),λi _=>n<=i⟩
def Bk{P:N6}{w:World}{K:N1}{J:Expr}(a g:Addr):u7 P w K J (HZ K a) [g] g (λi h=>h.IsListIter g a i)where
 mem:=by simp
 obj:=λi h st b j=>by
  have e:b=g:=by simpa using j
  subst e;obtain⟨o,e,c,d⟩:=st;exact⟨o,e,λv z=>by rw[d]at z;cases z⟩
 keep:=λi h h' st k=>st.at λo e=>k g (by simp) o e
 item:=by intro X q r t hc i f s G H E I m st hg;subst q r t;obtain⟨L,x,n,y⟩:=hg;obtain⟨A,B,p,hz⟩:=I.list n;obtain⟨u,M,ru⟩:=B.get y;obtain⟨C,f1,f2,f3,D,F⟩:=m g (by simp);refine wpAny_pyNext_list_item st p.isList (x:=u) (by simpa using M) λh' l N=>?_;have I1:aN X f G H {s with heap:=h'}:=I.turned (t':=s.toks) (λb o j e=>(N.2 b j).trans e) C f1 f3 D F;obtain⟨o,e,c,d⟩:=id l;exact⟨u,rfl,vI (s:={s with heap:=h'}) e c d (by decide) ⟨x,H,I1,ru,⟨rfl,λS Q=>by rw[I.list_inj Q n];exact y⟩,l,λb j=>(m b j).1⟩⟩
 done:=by intro X q r t hc i f s G H E I m st hg;subst q r t;obtain⟨L,n,y⟩:=hg;obtain⟨A,B,p,hz⟩:=I.list n;obtain⟨C,f1,f2,f3,D,F⟩:=m g (by simp);have hl:=B.length;exact wpAny_pyNext_list_end (I.ok.hd hc) st p.isList (by simp;lia) λh' R=>⟨rfl,I.turned (t':=s.toks) (λb o j e=>R b o j e) C f1 f3 D F⟩
 self:=λ_ _ _ _ _ st h=>wpAny_pyIter_listiter st h
def zn{P:N6}{w:World}{K:N1}{J:Expr}(a g:Addr):u7 P w K J (HY K a) [g] g (λi h=>h.IsTupleIter g a i)where
 mem:=by simp
 obj:=λi h st b j=>by
  have e:b=g:=by simpa using j
  subst e;obtain⟨o,e,c,d⟩:=st;exact⟨o,e,λv z=>by rw[d]at z;cases z⟩
 keep:=λi h h' st k=>st.at λo e=>k g (by simp) o e
 item:=by intro X r t y hc i f s G H E I n st hg;subst r t y;obtain⟨L,x,q,A⟩:=hg;obtain⟨l,B,p,hz⟩:=I.tuple q;obtain⟨u,M,ru⟩:=B.get A;obtain⟨C,f1,f2,f3,D,F⟩:=n g (by simp);refine wpAny_pyNext_tuple_item st (show s.heap.IsTuple a l.toArray from p) (x:=u) (by simpa using M) λh' m N=>?_;have I1:aN X f G H {s with heap:=h'}:=I.turned (t':=s.toks) (λb o j e=>(N.2 b j).trans e) C f1 f3 D F;obtain⟨o,e,c,d⟩:=id m;exact⟨u,rfl,vI (s:={s with heap:=h'}) e c d (by decide) ⟨x,H,I1,ru,⟨rfl,λS Q=>by rw[I.tuple_inj Q q];exact A⟩,m,λb j=>(n b j).1⟩⟩
 done:=by intro X r t y hc i f s G H E I n st hg;subst r t y;obtain⟨L,q,A⟩:=hg;obtain⟨l,B,p,hz⟩:=I.tuple q;obtain⟨C,f1,f2,f3,D,F⟩:=n g (by simp);have hl:=B.length;exact wpAny_pyNext_tuple_end (I.ok.hd hc) st (show s.heap.IsTuple a l.toArray from p) (by simp;lia) λh' R=>⟨rfl,I.turned (t':=s.toks) (λb o j e=>R b o j e) C f1 f3 D F⟩
 self:=λ_ _ _ _ _ st h=>wpAny_pyIter_tupleiter st h
def zo{P:N6}{w:World}{K:N1}{x:Expr}(a:Addr)(lo:Int)(n:Nat):u7 P w K x (FB lo n) [a] a (λi h=>IsRangeIter h a (lo+(i:Nat)*1) ((n:Int)-(i:Nat)) 1)where
 mem:=by simp
 obj:=λi h st b d=>by
  have e:b=a:=by simpa using d
  subst e;exact⟨_,st,λv z=>by have y:Data.fields _=Data.cell v:=z;cases y⟩
 keep:=λi h h' st k=>k a (by simp) _ st
 item:=by intro X j l m hc i c s u H E I g st hg;subst j l m;obtain⟨p,f1,f2,f3,q,r⟩:=g a (by simp);have W:=Walks.range (prog:=X.prog) (w:=X.w) (I.ok.hd hc) a lo 1 n;refine W.item i s _ _ hg st λv h' tk A f B=>?_;obtain⟨t,rfl⟩:=A;have I1:aN X c u H {s with heap:=h',toks:=tk}:=I.turned (λb o d e=>B b o (by simpa using d) e) p f1 f3 q r;refine⟨_,rfl,vI (s:={s with heap:=h',toks:=tk}) (n:="range_iterator") f rfl rfl (by decide) ⟨.int (lo+i),H,I1,⟨t,?_⟩,⟨rfl,rfl⟩,f,λb d=>(g b d).1⟩⟩;rw[MX]
 done:=by intro X j l m hc i c s u H E I g st hg;subst j l m;obtain⟨p,f1,f2,f3,q,r⟩:=g a (by simp);exact wpAny_pyNext_range_end (I.ok.hd hc) st (by have:n<=i:=hg;lia) λh' C=>⟨rfl,I.turned (t':=s.toks) (λb o d e=>C b o d e) p f1 f3 q r⟩
 self:=λ_ _ _ _ _ st h=>wpAny_pyIter_rangeiter st h
end L2
namespace L2
open PySem PySem.Spec PyProof.Rows
section
variable{X:Cx}{c:Expr}
def HM(K:N1)(d:TE):TI:=λe H R=>d e H λx b=>∃a,x=.ref a/\(∃f,aX K b a f)/\R (HZ K a) b
def Lg(K:N1)(d:TE):TI:=λe H R=>d e H λx b=>∃a,x=.ref a/\(∃f,bd K b a f)/\R (HY K a) b
def Gw{l:Expr}{g:TE}(hl:PE X l g):PI X c l (HM X.K g):=by
 intro d s i H R I h;refine cw (hl d s i H _ I h) λv f j=>?_;obtain⟨x,k,I1,m,n⟩:=j;obtain⟨a,e,⟨w,r⟩,q⟩:=n;subst e;cases m;obtain⟨t,y,p,hz⟩:=I1.list r;refine H_ p.isList ?_;refine⟨f.heap.objs.size,[f.heap.objs.size],_,_,k,rfl,I1.kept (t':=f.toks) λb o e=>c_ _ e,Bk a _,⟨_,fy _ rfl,rfl,rfl⟩,λb u=>?_,q⟩;have e:b=f.heap.objs.size:=by simpa using u
 subst e;exact I1.fpOk (eN _) (I1.hok.fresh (eN _))
def IZ{l:Expr}{i:TE}(hl:PE X l i):PI X c l (Lg X.K i):=by
 intro d s j H R I h;refine cw (hl d s j H _ I h) λv f k=>?_;obtain⟨x,m,I1,n,r⟩:=k;obtain⟨a,e,⟨w,t⟩,q⟩:=r;subst e;cases n;obtain⟨g,y,p,hz⟩:=I1.tuple t;refine E2 (show f.heap.IsTuple a g.toArray from p) ?_;refine⟨f.heap.objs.size,[f.heap.objs.size],_,_,m,rfl,I1.kept (t':=f.toks) λb o e=>c_ _ e,zn a _,⟨_,fy _ rfl,rfl,rfl⟩,λb u=>?_,q⟩;have e:b=f.heap.objs.size:=by simpa using u
 subst e;exact I1.fpOk (eN _) (I1.hok.fresh (eN _))
def xS{a:N3}{d:St}{H:Hp}{s:Shared}{R:It->Hp->Prop}{E:N2}{lo hi:Int}{t u v:Tok}{tk:Nat}(I:aN X a d H s)(h1:-(2^62)<=lo)(h2:lo<2^62)(h3:-(2^62)<=hi)(h4:hi<2^62)(q:R (FB lo (hi-lo).toNat) H):wpAny (model X.prog X.w) X.A (pyIter (.ref s.heap.objs.size)) (Ml X a d c R) E {s with heap:=s.heap.push {cls:=.type "range",data:=.fields #[.int lo t,.int hi u,.int 1 v]},toks:=tk}:=by
 refine wpAny_pyIter_range (IsRange.new ..) (small_one h1 h2 h3 h4) ?_;have I1:aN X a d H {s with heap:=s.heap.push {cls:=.type "range",data:=.fields #[.int lo t,.int hi u,.int 1 v]},toks:=tk}:=I.kept λb o e=>c_ _ e;refine⟨(s.heap.push {cls:=.type "range",data:=.fields #[.int lo t,.int hi u,.int 1 v]}).objs.size,[(s.heap.push {cls:=.type "range",data:=.fields #[.int lo t,.int hi u,.int 1 v]}).objs.size],_,_,H,rfl,I1.kept (t':=tk) λb o e=>c_ _ e,zo _ lo (hi-lo).toNat,?_,λb f=>?_,q⟩
 ·have g:lo+((0:Nat):Int)*1=lo:=by simp
  have h:(((hi-lo).toNat:Nat):Int)-((0:Nat):Int)=Builtin.Range.rangeSize lo hi 1:=by rw[rangeSize_one];split<;>lia
  show IsRangeIter _ _ (lo+((0:Nat):Int)*1) ((((hi-lo).toNat:Nat):Int)-((0:Nat):Int)) 1;rw[g,h];exact fy _ rfl
 ·have e:b=(s.heap.push {cls:=.type "range",data:=.fields #[.int lo t,.int hi u,.int 1 v]}).objs.size:=by simpa using f
  subst e;exact I1.fpOk (eN _) (I1.hok.fresh (eN _))
def Li(a:TA):TI:=λb H R=>a b H λd e=>∃j:Int,d=[.int j]/\-(2^62)<=j/\j<2^62/\R (FB 0 j.toNat) e
def Lh(a:TA):TI:=λb H R=>a b H λd e=>∃i j:Int,d=[.int i,.int j]/\(-(2^62)<=i/\i<2^62/\-(2^62)<=j/\j<2^62)/\R (FB i (j-i).toNat) e
def cC{a:Expr}{g:TA}{p d:Pos}(hg:Gl X "range")(hm:X.mg "range"=none)(i:PA X [a] g)(l:starEach [a] X.env=[(false,eval a X.env)]:=by rfl):PI X c (.Call (.Name "range" p) [a] [] d) (Li g):=by intro b s k H R I h;refine Call_ (kQ I hg hm boot_range (tx (cw (i d b s k H _ I h) λu v⟨w,x,I1,m,f⟩=>?_) l rfl));obtain⟨j,e,f,n,q⟩:=f;subst e;cases m with|cons r o=>cases o;obtain⟨t,rfl⟩:=r;exact call_range_1 (xS I1 (by lia) (by lia) f n (by simpa using q))
def vw(hg:Gl X "range")(hm:X.mg "range"=none)(m:PA X [a,b] n)(o:starEach [a,b] X.env=[(false,eval a X.env),(false,eval b X.env)]:=by rfl)(d:starEach [b] X.env=[(false,eval b X.env)]:=by rfl):PI X c (.Call (.Name "range" p) [a,b] [] g) (Lh n):=by intro f s u H R I h;refine Call_ (kQ I hg hm boot_range (tx (cw (m g f s u H _ I h) λA B⟨C,D,I1,v,k⟩=>?_) (by rw[o,d]) (by rw[d];rfl)));obtain⟨i,j,e,⟨k,w,x,y⟩,q⟩:=k;subst e;cases v with|cons r l=>cases l with|cons z l=>cases l;obtain⟨t,rfl⟩:=r;obtain⟨E,rfl⟩:=z;exact call_range_2 (xS I1 k w x y q)
def LX(h:TI)(g:TG)(j:TS):TS:=λD a H=>h a H λJ k=>∃W:Nat->Nat->St->Hp->Prop,(∃m,W 0 m a k)/\∀i m a H,W i m a H->(J.stop i H/\D.nx a H)\/(J.go i H/\∃N:St->Hp->Prop,(∀b d,N b d->∃f,f<m/\W (i+1) f b d)/\∀x d,J.yld i H x d->g x a d λe l=>j {D with nx:=N,ct:=N,bk:=D.nx} e l)
def tH(fp:Oa)(h:Heap):List (Addr×Obj):=fp.filterMap λb=>(h.get? b).map λo=>(b,o)
def kO(a:b∈fp)(e:h.get? b=some o):(b,o)∈tH fp h:=MO.mpr ⟨b,a,by rw[e];rfl⟩
def BU(a:p∈tH fp h):p.1∈fp/\h.get? p.1=some p.2:=by obtain⟨b,d,e⟩:=MO.mp a;cases q:h.get? b with|none=>rw[q]at e;cases e|some o=>rw[q]at e;have f:(b,o)=p:=ir e;subst f;exact⟨d,q⟩
def aN.pinned(I:aN X a h H s)(i:∀b∈fp,u9 X a H b)(j:∀b∈fp,∃o,s.heap.get? b=some o/\∀v,o.data≠.cell v):aN X (a++tH fp s.heap) h H s:=I.pins_of λp k=>(List.mem_append.mp k).elim (λz=>I.pin p (mo _ z)) λz=>by obtain⟨f,e⟩:=BU z;obtain⟨l,f1,f2,_⟩:=i p.1 f;obtain⟨o,g,d⟩:=j p.1 f;rw[e]at g;cases g;exact⟨e,l,f1,f2,d⟩
def aN.unpinned(I:aN X (a++pl) d H s):aN X a d H s:=I.pins_of λp b=>I.pin p (mo _ (u1 _ b))
def dJ(F:PassesOwn (model X.prog X.w) X.A X.env X.xe)(hc:X.calm=true)(hi:PI X c B wi)(hg:PG X c g)(l:uA X G tb)(hs:∀x,foldedSetIterable B X.env x=pure x:=by intro _;rfl):PS X (.For c B G [] aa) (LX wi g tb):=by
 intro a s σ H D I h;refine wpAny_For (cw (hi a s σ H _ I h) λv s1 h1=>cw h1 λad s2 h2=>?_) hs;obtain⟨it,fp,tn,J,H2,e,I2,T,Q,f2,W,⟨m0,w0⟩,K⟩:=h2;subst e;have k:∀{z:Hp},(∀b∈fp,z b=none)->∀b∈fp,u9 X a z b:=λhn b l=>⟨hn b l,(f2 b l).2⟩;refine codeAny_forLoop_any (λn s'=>∃i p z,aN X a p z s'/\tn i s'.heap/\(∀b∈fp,z b=none)/\W i n p z) ?_ m0 ⟨0,σ,H2,I2,Q,λb l=>(f2 b l).1,w0⟩;rintro n s3⟨i,q,P,I3,L,M,w3⟩;rcases K i n q P w3 with⟨stop,qn⟩|⟨go,N,hN,step⟩
 ·refine MF F (cw (T.done X rfl rfl rfl hc i a s3 q P X.xe I3 (k M) L stop) λr s4⟨R,I4⟩=>?_);subst R;exact MG ⟨q,P,I4,qn⟩
 ·refine MF F (cw (T.item X rfl rfl rfl hc i a s3 q P X.xe I3 (k M) L go) λr s4⟨u,R,h4⟩=>?_);subst R;refine MF F (cw h4 λ_ s5 S=>?_);obtain⟨x,H5,I5,r5,y5,E,U⟩:=S;have V:=I5.pinned (k U) (T.obj _ _ E);refine MF F (cw (hg _ s5 q H5 x u _ V r5 (step x H5 y5)) λ_ s6 S=>?_);obtain⟨Y,H6,I6,q6⟩:=S;refine MF F (cw (l _ s6 Y H6 _ I6 q6) λf Z C=>?_);have again:∀{j:St}{t:Hp},aN X (a++tH fp s5.heap) j t Z->N j t->∃m,m<n/\∃i p z,aN X a p z Z/\tn i Z.heap/\(∀b∈fp,z b=none)/\W i m p z:=λ{j t}y O=>by obtain⟨m',hm,w7⟩:=hN j t O;refine⟨m',hm,i+1,j,t,y.unpinned,T.keep _ _ _ E λb l o e=>(y.pin (b,o) (mo _ (mo _ (kO l e)))).1,λb l=>?_,w7⟩;obtain⟨o,e,d⟩:=T.obj _ _ E b l;exact(y.pin (b,o) (mo _ (mo _ (kO l e)))).2.1
  cases f with|next=>obtain⟨j,t,y,O⟩:=C;exact again y O|cont=>obtain⟨j,t,y,O⟩:=C;exact again y O|brk=>obtain⟨j,t,y,C⟩:=C;exact⟨j,t,y.unpinned,C⟩|ret v=>obtain⟨x7,j,t,y,r7,C⟩:=C;exact⟨x7,j,t,y.unpinned,r7,C⟩
end
def kx{K:N1}{a:Addr}{xs:List V}{g:TG}{tb:TS}{D:lq}{c:St}{H:Hp}(Pv:Nat->St->Hp->Prop)(h0:Pv 0 c H)(hl:∀i c H,i<=xs.length->Pv i c H->aX K H a xs)(n:∀i x c H,xs[i]?=some x->Pv i c H->g x c H λd j=>tb {D with nx:=Pv (i+1),ct:=Pv (i+1),bk:=D.nx} d j)(hd:∀c H,Pv xs.length c H->D.nx c H):∃W:Nat->Nat->St->Hp->Prop,(∃m,W 0 m c H)/\∀i m c H,W i m c H->((HZ K a).stop i H/\D.nx c H)\/((HZ K a).go i H/\∃N:St->Hp->Prop,(∀f h,N f h->∃l,l<m/\W (i+1) l f h)/\∀x h,(HZ K a).yld i H x h->g x c h λd j=>tb {D with nx:=N,ct:=N,bk:=D.nx} d j):=by
 refine⟨λi m c H=>m=xs.length-i/\i<=xs.length/\Pv i c H,⟨xs.length,by simp,j1 _,h0⟩,?_⟩;rintro i m c H⟨rfl,hi,p⟩;have q:=hl i c H hi p
 by_cases b:i<xs.length
 ·refine .inr ⟨⟨xs,xs[i],q,by simp[b]⟩,Pv (i+1),λf h k=>⟨xs.length-(i+1),by lia,rfl,b,k⟩,λx h y=>?_⟩;obtain⟨e,y⟩:=y;subst e;exact n i x c _ (y xs q) p
 ·have e:i=xs.length:=by lia
  subst e;exact .inl ⟨⟨xs,q,eN _⟩,hd c H p⟩
def He{K:N1}{a:Addr}{xs:List V}{g:TG}{l:TS}{D:lq}{c:St}{H:Hp}(Pv:Nat->St->Hp->Prop)(h0:Pv 0 c H)(hl:∀i c H,i<=xs.length->Pv i c H->bd K H a xs)(o:∀i x c H,xs[i]?=some x->Pv i c H->g x c H λd j=>l {D with nx:=Pv (i+1),ct:=Pv (i+1),bk:=D.nx} d j)(hd:∀c H,Pv xs.length c H->D.nx c H):∃W:Nat->Nat->St->Hp->Prop,(∃m,W 0 m c H)/\∀i m c H,W i m c H->((HY K a).stop i H/\D.nx c H)\/((HY K a).go i H/\∃N:St->Hp->Prop,(∀f h,N f h->∃n,n<m/\W (i+1) n f h)/\∀x h,(HY K a).yld i H x h->g x c h λd j=>l {D with nx:=N,ct:=N,bk:=D.nx} d j):=by
 refine⟨λi m c H=>m=xs.length-i/\i<=xs.length/\Pv i c H,⟨xs.length,by simp,j1 _,h0⟩,?_⟩;rintro i m c H⟨rfl,hi,p⟩;have q:=hl i c H hi p
 by_cases b:i<xs.length
 ·refine .inr ⟨⟨xs,xs[i],q,by simp[b]⟩,Pv (i+1),λf h k=>⟨xs.length-(i+1),by lia,rfl,b,k⟩,λx h y=>?_⟩;obtain⟨e,y⟩:=y;subst e;exact o i x c _ (y xs q) p
 ·have e:i=xs.length:=by lia
  subst e;exact .inl ⟨⟨xs,q,eN _⟩,hd c H p⟩
def gJ{lo:Int}{n:Nat}{g:TG}{tb:TS}{D:lq}{a:St}{H:Hp}(Pv:Nat->St->Hp->Prop)(h0:Pv 0 a H)(l:∀i a H,i<n->Pv i a H->g (.int (lo+i)) a H λc h=>tb {D with nx:=Pv (i+1),ct:=Pv (i+1),bk:=D.nx} c h)(hd:∀a H,Pv n a H->D.nx a H):∃W:Nat->Nat->St->Hp->Prop,(∃m,W 0 m a H)/\∀i m a H,W i m a H->((FB lo n).stop i H/\D.nx a H)\/((FB lo n).go i H/\∃N:St->Hp->Prop,(∀d f,N d f->∃j,j<m/\W (i+1) j d f)/\∀x f,(FB lo n).yld i H x f->g x a f λc h=>tb {D with nx:=N,ct:=N,bk:=D.nx} c h):=by
 refine⟨λi m a H=>m=n-i/\i<=n/\Pv i a H,⟨n,by simp,j1 _,h0⟩,?_⟩;rintro i m a H⟨rfl,hi,p⟩
 by_cases b:i<n
 ·refine .inr ⟨b,Pv (i+1),λd f k=>⟨n-(i+1),by lia,rfl,b,k⟩,λx f y=>?_⟩;obtain⟨e,y⟩:=y;subst e y;exact l i a _ b p
 ·have e:i=n:=by lia
  subst e;exact .inl ⟨eN _,hd a H p⟩
end L2
namespace L2
open PySem PySem.Spec PyProof.Rows
abbrev R2:=V->V->Hp->VK->Prop
def lg(X:Cx)(f:Value->Value->Sem Value)(r:R2):Prop:=∀(a:N3)(s:Shared)(b:St)(H:Hp)(x y:V)(v u:Value)(Q:VK),aN X a b H s->aY x v->aY y u->r x y H Q->wpAny (model X.prog X.w) X.A (f v u) (EP X a b Q) X.xe s
def Mh(X:Cx)(f:Value->Sem Value)(r:V->Hp->VK->Prop):Prop:=∀(a:N3)(s:Shared)(b:St)(H:Hp)(x:V)(v:Value)(Q:VK),aN X a b H s->aY x v->r x H Q->wpAny (model X.prog X.w) X.A (f v) (EP X a b Q) X.xe s
def db(X:Cx)(f:Value)(r:List V->Hp->VK->Prop):Prop:=∀(a:N3)(s:Shared)(b:St)(H:Hp)(c:List V)(d:N5)(Q:VK),aN X a b H s->be c d->r c H Q->wpAny (model X.prog X.w) X.A (call f d) (EP X a b Q) X.xe s
def Mi(X:Cx)(r:V->Hp->(Bool->Hp->Prop)->Prop):Prop:=∀(a:N3)(s:Shared)(b:St)(H:Hp)(x:V)(v:Value)(Q:Bool->Hp->Prop),aN X a b H s->aY x v->r x H Q->wpAny (model X.prog X.w) X.A (truthy v) (TP X a b Q) X.xe s
def J7(r:R2)(c d:TE):TE:=λa H Q=>c a H λx b=>d a b λy e=>r x y e Q
def tUn(r:V->Hp->VK->Prop)(a:TE):TE:=λb H Q=>a b H λx c=>r x c Q
def rI(C:Int->Int->Prop)(g:Int->Int->V):R2:=λx y H Q=>∃i j,x=.int i/\y=.int j/\C i j/\Q (g i j) H
def Go(g:Int->Int->V):R2:=λx y H Q=>∃i j,x=.int i/\y=.int j/\Q (g i j) H
def rU(g:Int->V):V->Hp->VK->Prop:=λx H Q=>∃i,x=.int i/\Q (g i) H
section
variable{X:Cx}{a b c:Expr}{d l tc:TE}{e:Pos}
def JV(p:PE X a d)(r:PE X b l){g:N3}{s:Shared}{i:St}{H:Hp}{R:V->V->Hp->Prop}(I:aN X g i H s)(h:d i H λx o=>l i o λy j=>R x y j){Q:N2}{f:Value->Value->Sem Value}(t:∀v u n x y j,aN X g i j n->aY x v->aY y u->R x y j->wpAny (model X.prog X.w) X.A (f v u) Q X.xe n):wpAny (model X.prog X.w) X.A (eval a X.env) (λv s₁=>wpAny (model X.prog X.w) X.A (eval b X.env) (λu m=>wpAny (model X.prog X.w) X.A (f v u) Q X.xe m) X.xe s₁) X.xe s:=by refine cw (p g s i H _ I h) λv q k=>?_;obtain⟨x,o,I1,z,B⟩:=k;refine cw (r g q i o _ I1 B) λu n k=>?_;obtain⟨y,j,C,r2,D⟩:=k;exact t v u n x y j C z r2 D
def aA{g:Operator}{r:R2}(i:lg X (binaryOp g) r)(j:PE X a d)(m:PE X b l):PE X (.BinOp a g b e) (J7 r d l):=by intro f s k H Q I h;exact wpAny_BinOp (JV j m I h λv u n x y o p t w q=>i f n k o x y v u Q p t w q)
def KU(i:Mh X (unaryOp j) r)(m:PE X a d):PE X (.UnaryOp j a e) (tUn r d):=by intro f s g H Q I h;refine UnaryOp_ (cw (m f s g H _ I h) λv k n=>?_);obtain⟨x,o,I1,p,q⟩:=n;exact i f k g o x v Q I1 p q
def KZ{f:Value->Value->Sem Value}{C:Int->Int->Prop}{g:Int->Int->Int}(rule:∀(i j:Int)(t u:Tok)(s:Shared)(Q:N2)(E:N2),C i j->Q (.int (g i j) s.toks) {s with toks:=s.toks+1}->wpAny (model X.prog X.w) X.A (f (.int i t) (.int j u)) Q E s):lg X f (rI C λi j=>.int (g i j)):=by intro k s p H x y v u Q I m n h;obtain⟨i,j,rfl,rfl,hc,q⟩:=h;obtain⟨t,rfl⟩:=m;obtain⟨o,rfl⟩:=n;exact rule i j t o s _ _ hc ⟨.int (g i j),H,I.tok _,⟨_,rfl⟩,q⟩
def Jg{f:Value->Value->Sem Value}{g:Int->Int->Int}(rule:∀(i j:Int)(t u:Tok)(s:Shared)(Q:N2)(E:N2),Q (.int (g i j) s.toks) {s with toks:=s.toks+1}->wpAny (model X.prog X.w) X.A (f (.int i t) (.int j u)) Q E s):lg X f (Go λi j=>.int (g i j)):=by intro k s p H x y v u Q I m n h;obtain⟨i,j,rfl,rfl,q⟩:=h;obtain⟨t,rfl⟩:=m;obtain⟨o,rfl⟩:=n;exact rule i j t o s _ _ ⟨.int (g i j),H,I.tok _,⟨_,rfl⟩,q⟩
def GE{f:Value->Value->Sem Value}{g:Int->Int->Bool}(rule:∀(i j:Int)(t u:Tok)(s:Shared)(Q:N2)(E:N2),Q (.bool (g i j)) s->wpAny (model X.prog X.w) X.A (f (.int i t) (.int j u)) Q E s):lg X f (Go λi j=>.bl (g i j)):=by intro k s p H x y v u Q I m n h;obtain⟨i,j,rfl,rfl,q⟩:=h;obtain⟨t,rfl⟩:=m;obtain⟨o,rfl⟩:=n;exact rule i j t o s _ _ ⟨.bl (g i j),H,I,rfl,q⟩
def fk(i j:Int):Prop:=0<j/\j<1073741824
def Mp(i j:Int):Prop:=0<=j/\j<=1000000/\i.natAbs<2^64
def J4(i j:Int):Prop:=(-(2^64)<i/\i<2^64)\/(-(2^64)<j/\j<2^64)
def J4.ok(h:J4 i j):IntMulOk i j:=by
 rcases h with⟨h1,h2⟩|⟨h1,h2⟩
 ·exact .of_left (intBits_le_64 h1 h2)
 ·exact .of_right (intBits_le_64 h1 h2)
def two_pow_nn(k:Nat):(0:Int)<=2^k:=by rw[two_pow_cast];exact hY _
def bQ:lg X (binaryOp .Add) (Go λi j=>.int (i+j)):=Jg λ_ _ _ _ _ _ _ q=>add_int q
def fB:lg X (binaryOp .Sub) (Go λi j=>.int (i-j)):=Jg λ_ _ _ _ _ _ _ q=>sub_int q
def eR:lg X (binaryOp .Mult) (rI J4 λi j=>.int (i*j)):=KZ λ_ _ _ _ _ _ _ hc q=>mul_int q hc.ok
def bL:lg X (binaryOp .FloorDiv) (rI fk λi j=>.int (i/j)):=KZ λi j _ _ _ _ _ hc q=>by have h1:(0:Int)<j:=hc.1;have h2:j<1073741824:=hc.2;exact floordiv_int (by lia) (by rw[MQ i (by lia)];exact q) (.inl (PyProof.noPylong_small (by lia)))
def aS:lg X (binaryOp .Mod) (rI (λ_ j=>0<j) λi j=>.int (i%j)):=KZ λi j _ _ _ _ _ hc q=>by have h1:(0:Int)<j:=hc;exact mod_int' (by lia) (by rw[Int.fmod_eq_emod_of_nonneg i (by lia)];exact q)
def Je:lg X (binaryOp .Pow) (rI Mp λi j=>.int (i^j.toNat)):=KZ λ_ _ _ _ _ _ _ hc q=>pow_int_small hc.1 hc.2.1 hc.2.2 q
def Jd:lg X (binaryOp .RShift) (rI (λ_ j=>0<=j) λi j=>.int (i/2^j.toNat)):=KZ λi j _ _ _ _ _ hc q=>rshift_int hc (by rw[MQ i (two_pow_nn _)];exact q)
def DR:lg X (binaryOp .BitAnd) (Go λi j=>.int (Builtin.bitAnd i j)):=Jg λ_ _ _ _ _ _ _ q=>and_int q
def unI{f:Value->Sem Value}{g:Int->Int}(rule:∀(i:Int)(t:Tok)(s:Shared)(Q:N2)(E:N2),Q (.int (g i) s.toks) {s with toks:=s.toks+1}->wpAny (model X.prog X.w) X.A (f (.int i t)) Q E s):Mh X f (rU λi=>.int (g i)):=by intro j s m H x v Q I k h;obtain⟨i,rfl,q⟩:=h;obtain⟨t,rfl⟩:=k;exact rule i t s _ _ ⟨.int (g i),H,I.tok _,⟨_,rfl⟩,q⟩
def Ig:Mh X (unaryOp .USub) (rU λi=>.int (-i)):=unI λ_ _ _ _ _ q=>neg_int q
end
def fw:V->V->Bool|.non,.non=>true|.non,.int _=>true|.int _,.non=>true|.non,.bl _=>true|.bl _,.non=>true|.non,.str _=>true|.str _,.non=>true|.int _,.int _=>true|.bl _,.bl _=>true|.str _,.str _=>true|.byt _,.byt _=>true|.int _,.str _=>true|.str _,.int _=>true|.bl _,.str _=>true|.str _,.bl _=>true|_,_=>false
def rEq:R2:=λx y H Q=>fw x y=true/\Q (.bl (decide (x=y))) H
def rNe:R2:=λx y H Q=>fw x y=true/\Q (.bl (!decide (x=y))) H
def A4:decide (V.int i=V.int j)=(i==j):=by rw[Np];simp
def E5:decide (V.bl i=V.bl j)=(i==j):=by rw[Np];simp
def AZ:decide (V.str i=V.str j)=(i==j):=by rw[Np];simp
def A5:decide (V.byt i=V.byt j)=(i.toList==j.toList):=by rw[Np];cases i;cases j;simp
section
variable{X:Cx}{a b c:Expr}{f g tc:TE}{l:Pos}
def bN(I:aN X d h H s)(q:Q (.bl k) H)(e:k=i):EP X d h Q (.bool i) s:=by subst e;exact⟨.bl k,H,I,rfl,q⟩
def aT:lg X (compareOp .Eq) rEq:=by intro n s o H x y v u Q I m d h;obtain⟨k,q⟩:=h;cases x with
 |non=>cases m;cases y with|non=>cases d;exact PySem.EqNone.eq_none_none (bN I q (by simp))|bl j=>cases d;exact PySem.EqNone.eq_none_bool (bN I q (by simp))|int j=>obtain⟨e,rfl⟩:=d;exact PySem.EqNone.eq_none_int (bN I q (by simp))|str j=>obtain⟨e,rfl⟩:=d;exact PySem.EqNone.eq_none_str (bN I q (by simp))|_=>exact absurd (show false=true from k) hA
 |bl i=>cases m;cases y with|non=>cases d;exact PySem.EqNone.eq_bool_none (bN I q (by simp))|bl j=>cases d;exact eq_bool (bN I q E5)|str j=>obtain⟨e,rfl⟩:=d;exact PySem.EqMixed.eq_bool_str (bN I q (by simp))|_=>exact absurd (show false=true from k) hA
 |int i=>obtain⟨t,rfl⟩:=m;cases y with|non=>cases d;exact PySem.EqNone.eq_int_none (bN I q (by simp))|int j=>obtain⟨e,rfl⟩:=d;exact eq_int (bN I q A4)|str j=>obtain⟨e,rfl⟩:=d;exact PySem.EqMixed.eq_int_str (bN I q (by simp))|_=>exact absurd (show false=true from k) hA
 |str i=>obtain⟨t,rfl⟩:=m;cases y with|non=>cases d;exact PySem.EqNone.eq_str_none (bN I q (by simp))|bl j=>cases d;exact PySem.EqMixed.eq_str_bool (bN I q (by simp))|int j=>obtain⟨e,rfl⟩:=d;exact PySem.EqMixed.eq_str_int (bN I q (by simp))|str j=>obtain⟨e,rfl⟩:=d;exact eq_str (bN I q AZ)|_=>exact absurd (show false=true from k) hA
 |byt i=>obtain⟨t,rfl⟩:=m;cases y with|byt j=>obtain⟨e,rfl⟩:=d;exact PySem.W.eq_bytes (bN I q A5)|_=>exact absurd (show false=true from k) hA
 |_=>cases y<;>exact absurd (show false=true from k) hA
def HH:lg X (compareOp .NotEq) rNe:=by intro n s o H x y v u Q I m d h;obtain⟨k,q⟩:=h;cases x with
 |non=>cases m;cases y with|non=>cases d;exact PySem.EqNone.ne_none_none (bN I q (by simp))|bl j=>cases d;exact PySem.EqNone.ne_none_bool (bN I q (by simp))|int j=>obtain⟨e,rfl⟩:=d;exact PySem.EqNone.ne_none_int (bN I q (by simp))|str j=>obtain⟨e,rfl⟩:=d;exact PySem.EqNone.ne_none_str (bN I q (by simp))|_=>exact absurd (show false=true from k) hA
 |bl i=>cases m;cases y with|non=>cases d;exact PySem.EqNone.ne_bool_none (bN I q (by simp))|bl j=>cases d;exact ne_bool (bN I q (ri not E5))|str j=>obtain⟨e,rfl⟩:=d;exact PySem.EqMixed.ne_bool_str (bN I q (by simp))|_=>exact absurd (show false=true from k) hA
 |int i=>obtain⟨t,rfl⟩:=m;cases y with|non=>cases d;exact PySem.EqNone.ne_int_none (bN I q (by simp))|int j=>obtain⟨e,rfl⟩:=d;exact ne_int (bN I q (ri not A4))|str j=>obtain⟨e,rfl⟩:=d;exact PySem.EqMixed.ne_int_str (bN I q (by simp))|_=>exact absurd (show false=true from k) hA
 |str i=>obtain⟨t,rfl⟩:=m;cases y with|non=>cases d;exact PySem.EqNone.ne_str_none (bN I q (by simp))|bl j=>cases d;exact PySem.EqMixed.ne_str_bool (bN I q (by simp))|int j=>obtain⟨e,rfl⟩:=d;exact PySem.EqMixed.ne_str_int (bN I q (by simp))|str j=>obtain⟨e,rfl⟩:=d;exact ne_str (bN I q (ri not AZ))|_=>exact absurd (show false=true from k) hA
 |byt i=>obtain⟨t,rfl⟩:=m;cases y with|byt j=>obtain⟨e,rfl⟩:=d;exact PySem.W.ne_bytes (bN I q (ri not A5))|_=>exact absurd (show false=true from k) hA
 |_=>cases y<;>exact absurd (show false=true from k) hA
def x4:lg X (compareOp .Lt) (Go λi j=>.bl (decide (i<j))):=GE λ_ _ _ _ _ _ _ q=>lt_int q
def jn:lg X (compareOp .LtE) (Go λi j=>.bl (decide (i<=j))):=GE λ_ _ _ _ _ _ _ q=>le_int q
def qG:lg X (compareOp .Gt) (Go λi j=>.bl (decide (j<i))):=GE λ_ _ _ _ _ _ _ q=>gt_int q
def DQ:lg X (compareOp .GtE) (Go λi j=>.bl (decide (j<=i))):=GE λ_ _ _ _ _ _ _ q=>ge_int q
def BO:lg X (compareOp .In) (λx y H Q=>∃i j,x=.str i/\y=.str j/\Q (.bl (!(Builtin.Str.occurrences j i 0 j.length 1).isEmpty)) H):=by intro d s m H x y v u Q I e k h;obtain⟨i,j,rfl,rfl,q⟩:=h;obtain⟨t,rfl⟩:=e;obtain⟨n,rfl⟩:=k;exact in_str (bN I q rfl)
def DP:lg X (compareOp .Is) (λx y H Q=>y=.non/\Q (.bl (decide (x=.non))) H):=by intro d s j H x y v u Q I e i h;obtain⟨rfl,q⟩:=h;cases i;refine is_none_gen (bN I q ?_);cases x<;>first|(cases e;rfl)|(obtain⟨t,rfl⟩:=e;rfl)
def GC:lg X (compareOp .IsNot) (λx y H Q=>y=.non/\Q (.bl (!decide (x=.non))) H):=by intro d s j H x y v u Q I e i h;obtain⟨rfl,q⟩:=h;cases i;refine isnot_none_gen (bN I q ?_);cases x<;>first|(cases e;rfl)|(obtain⟨t,rfl⟩:=e;rfl)
def aF(b:Expr)(h:d≠.In:=by decide)(h2:d≠.NotIn:=by decide):behindInMarks d b=false:=by
 have e:(d==CmpOp.In)=false:=by cases d<;>first|rfl|exact absurd rfl h
 have i:(d==CmpOp.NotIn)=false:=by cases d<;>first|rfl|exact absurd rfl h2
 cases b<;>simp[behindInMarks,e,i]
def bT(i:lg X (compareOp e) r)(j:PE X a f)(m:PE X b g)(hm:behindInMarks e b=false):PE X (.Compare a [e] [b] l) (J7 r f g):=by intro d s k H Q I h;exact wpAny_Compare1 (JV j m I h λv u n x y o p t w q=>i d n k o x y v u Q p t w q) hm
def HA(t:TE):TT:=λd H Q=>t d H λx e=>∃k,x=.bl k/\Q k e
def aD(m:lg X (compareOp j) r)(n:PE X a f)(o:PE X b g)(hm:behindInMarks j b=false):PT X (.Compare a [j] [b] l) (HA (J7 r f g)):=by
 intro d s i H Q I h;refine wpAny_isTrue_Compare1 (cw (n d s i H _ I h) λv p⟨x,q,I1,t,w⟩=>cw (o d p i q _ I1 w) λu A⟨y,B,C,r2,D⟩=>cw (m d A i B x y v u _ C t r2 D) λc K⟨z,E,F,G,k,e,J⟩=>?_) hm
 subst e;cases G;exact oD ⟨E,F,J⟩
def CN(r h:R2)(f g tc:TE):TE:=λd H Q=>f d H λx i=>g d i λy j=>r x y j λz e=>∃k,z=.bl k/\(if k=true then tc d e λm n=>h y m n Q else Q (.bl false) e)
def tI(w:lg X (compareOp o) r)(n:lg X (compareOp j) A)(B:PE X a f)(C:PE X b g)(hc:PE X c tc)(hm:lastMarks [o,j] [b,c]=false:=by with_unfolding_all rfl):PE X (.Compare a [o,j] [b,c] l) (CN r A f g tc):=by
 intro i s m H Q I h;refine Compare_chain (cw (B i s m H _ I h) λv D⟨x,E,I1,F,G⟩=>chain_link (cw (C i D m E _ I1 G) λu J⟨y,K,L,r2,M⟩=>cw (w i J m K x y v u _ L F r2 M) λd N⟨z,p,q,O,k,e,t⟩=>?_)) hm
 subst e;cases O;refine oD ?_;cases k with|false=>exact ite_ff ⟨.bl false,p,q,rfl,t⟩|true=>exact ite_tt (chain_last (cw (hc i N m p _ q t) λP R⟨S,T,U,V,W⟩=>n i R m T y S u P Q U r2 V W))
def xT(A:lg X (compareOp p) r)(n:lg X (compareOp j) B)(C:PE X a f)(D:PE X b g)(hc:PE X c tc)(hm:lastMarks [p,j] [b,c]=false:=by with_unfolding_all rfl):PT X (.Compare a [p,j] [b,c] l) (HA (CN r B f g tc)):=by
 intro i s m H Q I h;refine isTrue_chain (cw (C i s m H _ I h) λv E⟨x,F,I1,G,J⟩=>test_link (cw (D i E m F _ I1 J) λu K⟨y,L,M,r2,N⟩=>cw (A i K m L x y v u _ M G r2 N) λd O⟨z,q,t,P,k,e,w⟩=>?_)) hm
 subst e;cases P;refine oD ?_;cases k with|false=>obtain⟨k',R,S⟩:=w;cases R;exact ite_ff ⟨q,t,S⟩|true=>refine ite_tt (test_last (cw (hc i O m q _ t w) λT U o=>?_));obtain⟨V,W,Y,Z,q4⟩:=o;refine cw (n i U m W y V u T _ Y r2 Z q4) λd' s5 o=>?_;obtain⟨z2,H5,I5,r5,k2,e2,q5⟩:=o;subst e2;cases r5;exact oD ⟨H5,I5,q5⟩
def JY(K:N1)(x:V)(H:Hp)(k:Bool):Prop:=match x with|.non=>k=false|.bl b=>k=b|.int i=>k=(i !=0)|.str y=>y.length<=sizeLine/\k=((y.length:Int)!=0)|.byt y=>y.size<=sizeLine/\k=((y.size:Int)!=0)|.ref p=>(∃d,aX K H p d/\k=!d.isEmpty)\/(∃d,bd K H p d/\k=!d.isEmpty)\/∃e,H p=some (.dK e)/\k=!e.isEmpty|_=>False
def zZ(r:KV d e):(!e.isEmpty)=!d.isEmpty:=by cases r<;>rfl
def tY(r:be e d):(!d.toArray.isEmpty)=!e.isEmpty:=by cases r<;>simp
def pQ:(sizeLine:Nat)<2^63:=by rw[g8];decide
def Ii:Mi X (λx H Q=>∃k,JY X.K x H k/\Q k H):=by intro C s F H x v Q I u h;obtain⟨k,e,q⟩:=h;have hl:=pQ;have G:sizeLine=16777216:=g8;cases x with|non=>cases u;have d:k=false:=e;subst d;exact truthy_none ⟨H,I,q⟩|bl b=>cases u;have d:k=b:=e;subst d;exact oD ⟨H,I,q⟩|int i=>obtain⟨t,rfl⟩:=u;have d:k=(i !=0):=e;subst d;exact PySem.P.truthy_int ⟨H,I,q⟩|str y=>obtain⟨t,rfl⟩:=u;obtain⟨D,d⟩:y.length<=sizeLine/\k=((y.length:Int)!=0):=e;subst d;exact PySem.P.truthy_str (by lia) ⟨H,I.tok _,q⟩|byt y=>obtain⟨t,rfl⟩:=u;obtain⟨D,d⟩:y.size<=sizeLine/\k=((y.size:Int)!=0):=e;subst d;exact PySem.W.truthy_bytes (by lia) ⟨H,I.tok _,q⟩|ref p=>
  cases u;have d:(∃o,aX X.K H p o/\k=!o.isEmpty)\/(∃o,bd X.K H p o/\k=!o.isEmpty)\/∃j,H p=some (.dK j)/\k=!j.isEmpty:=e;rcases d with⟨o,z,d⟩|⟨o,z,d⟩|⟨j,z,d⟩
  ·subst d;obtain⟨B,r,pl,hz⟩:=I.list z;have n:=r.length;exact wpAny_truthy_list pl.isList (by simp only[hE];lia) ⟨H,I.tok _,by rw[tY r];exact q⟩
  ·subst d;obtain⟨B,r,pl,hz⟩:=I.tuple z;have n:=r.length;exact truthy_tuple pl (by simp only[hE];lia) ⟨H,I.tok _,by rw[tY r];exact q⟩
  ·subst d;obtain⟨hz,E,A,r,m⟩:j.length<=sizeLine/\(p==sysModules)=false/\∃A,KV j A/\s.heap.DictOf (aW X.prog X.w) p A:=I.hok p _ z;have n:j.length=A.length:=Paired.length r;exact wpAny_truthy_dict E m (by lia) ⟨H,I.tok _,by rw[zZ r];exact q⟩|_=>exact(show False from e).elim
def DG(m:PE X a f)(n:∀d,isTrue a X.env d=(do let v<-d;standAt a.pos;holding [v] (truthy v))):PT X a (λi H Q=>f i H λx j=>∃k,JY X.K x j k/\Q k j):=by intro e s i H Q I h;exact isTrue_plain (cw (m e s i H _ I h) λv o⟨x,p,I1,q,r⟩=>Ii e o i p x v Q I1 q r) (n _)
def iW:lg X (binaryOp .Add) (λx y H Q=>∃i j,x=.str i/\y=.str j/\i.length+j.length<=sizeLine/\Q (.str (i++j)) H):=by intro d s n H x y v u Q I e k h;obtain⟨i,j,rfl,rfl,hz,q⟩:=h;obtain⟨t,rfl⟩:=e;obtain⟨m,rfl⟩:=k;exact add_str (λm tk=>⟨.str (i++j),H,I.tok _,⟨_,rfl⟩,q⟩) hz
def jO(r:be [x] d):∃u,d=[u]/\aY x u:=by cases r with|cons e r2=>cases r2;exact⟨_,rfl,e⟩
def r6(r:be [x,y] e):∃u d,e=[u,d]/\aY x u/\aY y d:=by cases r with|cons h r2=>cases r2 with|cons i j=>cases j;exact⟨_,_,rfl,h,i⟩
def Co(hc:X.calm=true):db X (.builtin "max") (λd H Q=>∃i j,d=[.int i,.int j]/\Q (.int (if j>i then j else i)) H):=by
 intro e s m H d n Q I r h;obtain⟨i,j,rfl,q⟩:=h;obtain⟨u,o,rfl,⟨t,rfl⟩,⟨p,rfl⟩⟩:=r6 r;refine max_two_ints (I.ok.hd hc) λh' tk k=>⟨_,H,I.kept k,?_,q⟩
 by_cases hj:j>i
 ·rw[gn hj,gn hj];exact⟨_,rfl⟩
 ·rw[ge hj,ge hj];exact⟨_,rfl⟩
def qi(hc:X.calm=true):db X (.builtin "min") (λd H Q=>∃i j,d=[.int i,.int j]/\Q (.int (if j<i then j else i)) H):=by
 intro e s m H d n Q I r h;obtain⟨i,j,rfl,q⟩:=h;obtain⟨u,o,rfl,⟨t,rfl⟩,⟨p,rfl⟩⟩:=r6 r;refine min_two_ints (I.ok.hd hc) λh' tk k=>⟨_,H,I.kept k,?_,q⟩
 by_cases hj:j<i
 ·rw[gn hj,gn hj];exact⟨_,rfl⟩
 ·rw[ge hj,ge hj];exact⟨_,rfl⟩
def LA(K:N1)(x:V)(H:Hp)(n:Nat):Prop:=match x with|.str y=>y.length<=sizeLine/\n=y.length|.byt y=>y.size<=sizeLine/\n=y.size|.ref p=>(∃d,aX K H p d/\n=d.length)\/∃d,bd K H p d/\n=d.length|_=>False
def Fh:db X (.builtin "len") (λd H Q=>∃x n,d=[x]/\LA X.K x H n/\Q (.int n) H):=by
 intro w s A H d B Q I r h;obtain⟨x,n,rfl,e,q⟩:=h;obtain⟨u,rfl,k⟩:=jO r;have hl:=pQ;have C:sizeLine=16777216:=g8;cases x with|str y=>obtain⟨t,rfl⟩:=k;obtain⟨z,j⟩:y.length<=sizeLine/\n=y.length:=e;subst j;exact len_str (by lia) ⟨.int _,H,I.tok _,⟨_,rfl⟩,q⟩|byt y=>obtain⟨t,rfl⟩:=k;obtain⟨z,j⟩:y.size<=sizeLine/\n=y.size:=e;subst j;exact PySem.W.len_bytes (by lia) ⟨.int _,H,I.tok _,⟨_,rfl⟩,q⟩|ref p=>
  cases k;have j:(∃d,aX X.K H p d/\n=d.length)\/∃d,bd X.K H p d/\n=d.length:=e;rcases j with⟨d,m,j⟩|⟨d,m,j⟩
  ·subst j;obtain⟨o,v,pl,hz⟩:=I.list m;have i:=v.length;exact Calls.call_len_list pl.isList (by simp only[hE];lia) ⟨.int d.length,H,I.tok _,⟨_,by simp only[hE];rw[i]⟩,q⟩
  ·subst j;obtain⟨o,v,pl,hz⟩:=I.tuple m;have i:=v.length;exact len_tuple pl (by simp only[hE];lia) ⟨.int d.length,H,I.tok _,⟨_,by simp only[hE];rw[i]⟩,q⟩|_=>exact(show False from e).elim
def yY:db X (.builtin "divmod") (λd H Q=>∃i j,d=[.int i,.int j]/\fk i j/\∀p,H p=none->Q (.ref p) (aJ H p (.tup [.int (i/j),.int (i%j)]))):=by intro k s m H d n Q I r h;obtain⟨i,j,rfl,⟨h1,h2⟩,q⟩:=h;obtain⟨u,v,rfl,⟨t,rfl⟩,⟨w,rfl⟩⟩:=r6 r;refine divmod_int (by lia) ?_ (.inl (PyProof.noPylong_small (by lia)));rw[MQ i (by lia),Int.fmod_eq_emod_of_nonneg i (by lia)];have hn:H s.heap.objs.size=none:=I.hok.fresh (eN _);refine⟨.ref s.heap.objs.size,_,?_,rfl,q _ hn⟩;refine I.laid (λb o e=>c_ _ e) (eN _) ⟨by simp only[kl,Nl];rw[g8];decide,[.int (i/j) s.toks,.int (i%j) (s.toks+1)],.cons ⟨_,rfl⟩ (.cons ⟨_,rfl⟩ .nil),?_⟩;exact⟨_,fy s.heap rfl,rfl,0,rfl⟩
end
end L2
namespace L2
open PySem PySem.Spec PyProof.Rows
structure Aw(h:Heap)(x dx C:Addr)(mA:N4):Prop where
 obj:h.get? x=some (PySem.W.instObj C dx)ns:h.Ns1 dx mA
 ne:dx≠x
def B4{h:Heap}{dx:Addr}{d:N4}(n:h.Ns1 dx d):∃f,h.get? dx=some f/\∀c,PySem.W.lookIn c f=some (d c):=by
 obtain⟨o,g,m,i,hd,j,_,hm⟩:=n;refine⟨o,i,λc=>?_⟩;have e:=hm c;unfold nsFind findBy at e;rw[<-Array.find?_toList]at e;unfold PySem.W.lookIn;rw[hd];dsimp only
 split
 ·rename_i y q;rw[q]at e;exact ri some e
 ·rename_i q;rw[q]at e;have a:g.toList.any (·.refKey)=false:=by rw[List.any_eq_false];intro y k;obtain⟨z,t,b⟩:=j y (Array.mem_toList_iff.mp k);simp[DictEntry.refKey,b]
  have l:¬g.toList.any (·.refKey)=true:=by rw[a];exact hA
  rw[ge l];exact ri some e
def Aw.look(I:Aw h x dx C d):∃c,PySem.W.InstAt h x (PySem.W.instObj C dx) C (some c)/\∀a,PySem.W.lookIn a c=some (d a):=let⟨c,b,hl⟩:=B4 I.ns
 ⟨c,⟨I.obj,rfl,rfl,b⟩,hl⟩
section
variable{prog:N6}{w:World}{A:Around}{E:N2}{s:Shared}{K:N1}{x dx C f:Addr}{e:N4}{c:Str}{v:Value}
def Hc(X:K.In s.heap)(I:Aw s.heap x dx C e)(hg:PySem.W.plainGet K C c=true)(hh:PySem.W.hasDictIn K C=true)(g:PySem.W.findIn K (.ref C) c=some none)(i:e c=some v)(a:PySem.W.handedIn v=true)(h:Q v {s with toks:=s.toks+1}):wpAny (model prog w) A (getAttr (.ref x) c d) Q E s:=by obtain⟨b,J,hl⟩:=I.look;exact PySem.W.get_value X J (PySem.W.plainGet_of hg).1 (PySem.W.findObj_own hh g rfl (by rw[hl,i])) a h
def ER(X:K.In s.heap)(I:Aw s.heap x dx C e)(hg:PySem.W.plainGet K C c=true)(a:PySem.W.findIn K (.ref C) c=some (some (.ref f)))(d:PySem.W.isFn K (.ref f)=true)(g:e c=none)(h:Q (.ref f,[.ref x]) s):wpAny (model prog w) A (getMethod (.ref x) c pl) Q E s:=by obtain⟨b,J,hl⟩:=I.look;exact PySem.W.method_fn X J (PySem.W.plainGet_of hg).1 (PySem.W.plainGet_of hg).2 a (beq_iff_eq.mp d) (by show(PySem.W.lookIn c b).map (·.isSome)=some false;rw[hl,g];rfl) h
def gX(X:K.In s.heap)(I:Aw s.heap x dx C e)(m:PySem.W.findIn K (.ref C) "__setattr__"=some (some (.builtin "object.__setattr__")))(n:PySem.W.plainOver K C=true)(o:PySem.W.takerIn K C c=some none)(hh:PySem.W.hasDictIn K C=true)(p:PySem.Within e ns)(t:ns.length<=sizeLine)(h:∀h',Aw h' x dx C (λy=>if y=c then some v else e y)->Heap.SameBut dx s.heap h'->Q () {s with heap:=h',toks:=s.toks+2}):wpAny (model prog w) A (setAttr (.ref x) c v) Q E s:=by obtain⟨B,J,hl⟩:=I.look;refine PySem.W.set_plain X J m (PySem.W.osa_open (s:={s with toks:=s.toks+1}) (r:=none) X J n o λb=>?_);obtain⟨cd,hc,i⟩:=PySem.W.any_some hh;have q:s.heap.get? x=some ⟨.ref C,some dx,.plain,#[]⟩:=I.obj;refine a_ (eH (a_ (a_ (wpAny_loadPart q (a_ (PySem.W.Looks.here (s:={s with toks:=s.toks+1}) (PySem.W.looks_clsIn X hc) ?_))))));rw[i];refine eH (a:=some dx) (a_ (eH (a_ ?_)));refine wpAny_nsSet1 (s:={s with toks:=s.toks+1}) I.ns λh' d g=>?_;obtain⟨D,u,z,j,k,l⟩:=d.count (PySem.Within.cons c v p);refine a_ (wpAny_lookBehind j (by rw[k];exact pastItsLine_dict (j_ l (by rw[kl];lia))) ?_);exact eH (h _ ⟨(g.2 _ (mu I.ne)).trans I.obj,d,I.ne⟩ g)
def Eh(X:K.In s.heap)(hm:PySem.W.makesIn K C=true)(hi:PySem.W.findIn K (.ref C) "__init__"=some (some (.ref f)))(j:PySem.W.typeIn K (.ref f)=some (.type "function"))(h:codeAny (model prog w) (A.under (.builtin "type.__call__" ⟨.ref C::a,i⟩)) (.call (.ref f) ⟨.ref (s.heap.objs.size+1)::a,i⟩) (PySem.W.InitBack (s.heap.objs.size+1) R) {s with heap:=(s.heap.push PySem.W.emptyDict).push (PySem.W.instObj C s.heap.objs.size)}):codeAny (model prog w) A (.call (.ref C) ⟨a,i⟩) R s:=by obtain⟨hh,g,d,t,os⟩:=s;exact PySem.W.make_core (PySem.W.makes_of X hm) (PySem.W.looks_findIn X hi) (λself=>PySem.W.bind_fn X self j) (.inl rfl) h
end
def gj(f:Str)(v:V):List (Str×V)->List (Str×V)|[]=>[(f,v)]|(g,x)::r=>if g=f then(g,v)::r else(g,x)::gj f v r
theorem qN(f g:Str)(v:V):∀fs:List (Str×V),(gj f v fs).lookup g=if g=f then some v else fs.lookup g
 |[]=>by
  show List.lookup g [(f,v)]=_
  by_cases h:g=f
  ·have a:(g==f)=true:=beq_iff_eq.mpr h;simp only[List.lookup,a,gn h]
  ·have a:(g==f)=false:=to.mpr h;simp only[List.lookup,a,ge h]|(k,x)::r=>by
  have c:=qN f g v r;rw[show gj f v ((k,x)::r)=(if k=f then(k,v)::r else(k,x)::gj f v r)from rfl]
  by_cases b:k=f
  ·rw[gn b]
   by_cases h:g=k
   ·have a:(g==k)=true:=beq_iff_eq.mpr h;simp only[List.lookup,a,gn (h.trans b)]
   ·have a:(g==k)=false:=to.mpr h;simp only[List.lookup,a,ge (λe:g=f=>h (e.trans b.symm))]
  ·rw[ge b]
   by_cases h:g=k
   ·have a:(g==k)=true:=beq_iff_eq.mpr h;simp only[List.lookup,a,ge (λe:g=f=>b (h.symm.trans e))]
   ·have a:(g==k)=false:=to.mpr h;simp only[List.lookup,a];exact c
theorem pY(f:Str)(v:V):∀fs:List (Str×V),f∈(gj f v fs).map (·.1)/\∀g,g∈fs.map (·.1)->g∈(gj f v fs).map (·.1)
 |[]=>⟨by simp[gj],λg h=>by simp at h⟩|(k,x)::r=>by
  obtain⟨b,c⟩:=pY f v r;rw[show gj f v ((k,x)::r)=(if k=f then(k,v)::r else(k,x)::gj f v r)from rfl]
  by_cases a:k=f
  ·rw[gn a];subst a;exact⟨by simp,λg h=>by simpa using h⟩
  ·rw[ge a];refine⟨?_,λg h=>?_⟩
   ·rw[ku];exact g_ _ b
   ·rw[ku]at h⊢;rcases ot.mp h with e|e
    ·exact ot.mpr (.inl e)
    ·exact g_ _ (c g e)
theorem qO(f:Str)(v:V):∀fs:List (Str×V),(gj f v fs).length<=fs.length+1
 |[]=>by simp[gj]|(k,x)::r=>by
  have b:=qO f v r;rw[show gj f v ((k,x)::r)=(if k=f then(k,v)::r else(k,x)::gj f v r)from rfl]
  by_cases a:k=f
  ·rw[gn a,kl,kl];lia
  ·rw[ge a,kl,kl];lia
def jK.some_of(r:jK (some v) o):∃u,o=some u/\aY v u:=by cases o with|none=>exact(show False from r).elim|some u=>exact⟨u,rfl,r⟩
def jK.none_of(r:jK none o):o=none:=by cases o with|none=>rfl|some u=>exact(show False from r).elim
def Ce(r:aY v u):PySem.W.handedIn u=true:=by cases v with|non=>cases(show u=Value.none from r);rfl|bl b=>cases(show u=Value.bool b from r);rfl|int i=>obtain⟨t,e⟩:=(show∃t,u=Value.int i t from r);cases e;rfl|str x=>obtain⟨t,e⟩:=(show∃t,u=Value.str x t from r);cases e;rfl|byt b=>obtain⟨t,e⟩:=(show∃t,u=Value.bytes b t from r);cases e;rfl|flt b=>obtain⟨t,e⟩:=(show∃t,u=Value.float b t from r);cases e;rfl|ref a=>cases(show u=Value.ref a from r);rfl|ty n=>cases(show u=Value.type n from r);rfl
section
variable{P:N6}{w:World}{H g:Hp}{h h':Heap}{a C dx:Addr}{fs c:List (Str×V)}
def rR(hok:lr P w H h)(e:H a=some (.ins C dx fs)):∃i,Aw h a dx C i/\(∀f,jK (fs.lookup f) (i f))/\PySem.Within i (fs.map (·.1))/\fs.length<=1000/\H dx=some (.own a):=by obtain⟨d,z,ne,ob,i,n,r,q⟩:=(show dk P w H h a (.ins C dx fs)from hok a _ e);exact⟨i,⟨ob,n,ne⟩,r,q,z,d⟩
end
structure xj(K:N1)(C:Addr):Prop where
 pg:PySem.W.plainGet K C Str.empty=true
 hd:PySem.W.hasDictIn K C=true
 po:PySem.W.plainOver K C=true
 sa:PySem.W.findIn K (.ref C) "__setattr__"=some (some (.builtin "object.__setattr__"))
def xj.get{K:N1}{C:Addr}(c:xj K C)(f:Str):PySem.W.plainGet K C f=true:=c.pg
def bZ(K:N1)(C:Addr)(f:Str):Prop:=PySem.W.findIn K (.ref C) f=some none
def bZ.taker{K:N1}{C:Addr}{f:Str}(n:bZ K C f):PySem.W.takerIn K C f=some none:=by unfold PySem.W.takerIn;rw[show PySem.W.findIn K (.ref C) f=some none from n];rfl
structure Fy(K:N1)(C:Addr)(m:Str)(f:Addr):Prop where
 at_:PySem.W.findIn K (.ref C) m=some (some (.ref f))fn:PySem.W.isFn K (.ref f)=true
 kp:PySem.W.keepIn K (.ref f)=true
section
variable{X:Cx}{d:N3}{i:St}{H:Hp}{s:Shared}{a C dx:Addr}{fs:List (Str×V)}{f:Str}{v:V}{A:Around}{E:N2}
def Ae(I:aN X d i H s)(e:H a=some (.ins C dx fs))(c:xj X.K C)(n:bZ X.K C f)(l:fs.lookup f=some v)(h:∀u g,aN X d i H g->aY v u->Q u g):wpAny (model X.prog X.w) A (getAttr (.ref a) f b) Q E s:=by obtain⟨j,O,r,_,_,_⟩:=rR I.hok e;obtain⟨u,k,ru⟩:=jK.some_of (v:=v) (o:=j f) (by rw[<-l];exact r f);exact Hc I.kIn O (c.get f) c.hd n k (Ce ru) (h u _ (I.tok _) ru)
def nH(I:aN X d i H s)(e:H a=some (.ins C dx fs))(c:xj X.K C)(k:Fy X.K C m g)(l:fs.lookup m=none)(h:Q (.ref g,[.ref a]) s):wpAny (model X.prog X.w) A (getMethod (.ref a) m pl) Q E s:=by obtain⟨b,O,r,_,_,_⟩:=rR I.hok e;have hn:b m=none:=jK.none_of (by rw[<-l];exact r m);exact ER I.kIn O (c.get m) k.at_ k.fn hn h
def zu(I:aN X d i H s)(e:H a=some (.ins C dx fs))(c:xj X.K C)(n:bZ X.K C f)(hl:fs.length<1000)(t:aY y u)(h:∀l,aN X d i (aJ H a (.ins C dx (gj f y fs))) l->Q () l):wpAny (model X.prog X.w) A (setAttr (.ref a) f u) Q E s:=by
 obtain⟨k,O,r,m,_,p⟩:=rR I.hok e;have hz:(fs.map (·.1)).length<=sizeLine:=by rw[b_,g8];lia
 refine gX I.kIn O c.sa c.po n.taker c.hd m hz λh' j B=>h _ ?_;have hd:∃o,h'.get? dx=some o:=let⟨o,_,_,D,_⟩:=j.ns;⟨o,D⟩;refine I.write (x:=a) (e:=dx) (by rw[e];exact True.intro) (.inr p) (λb q F z=>(B.2 b F).trans z) hd ?_;refine⟨by rw[ao O.ne];exact p,?_,O.ne,j.obj,_,j.ns,λg=>?_,λg hg=>?_⟩
 ·have:=qO f y fs;lia
 ·show jK ((gj f y fs).lookup g) (if g=f then some u else k g);rw[qN]
  by_cases q:g=f
  ·rw[gn q,gn q];exact t
  ·rw[ge q,ge q];exact r g
 ·by_cases q:g=f
  ·rw[q];exact(pY f y fs).1
  ·refine(pY f y fs).2 g (m g λz=>hg ?_);show(if g=f then some u else k g)=none;rw[ge q];exact z
def aN.made(I:aN X d i H s):aN X d i (aJ (aJ H s.heap.objs.size (.own (s.heap.objs.size+1))) (s.heap.objs.size+1) (.ins C s.heap.objs.size [])) {s with heap:=(s.heap.push PySem.W.emptyDict).push (PySem.W.instObj C s.heap.objs.size)}:=by
 have c:(s.heap.push PySem.W.emptyDict).get? s.heap.objs.size=some PySem.W.emptyDict:=fy s.heap rfl;have g:((s.heap.push PySem.W.emptyDict).push (PySem.W.instObj C s.heap.objs.size)).get? (s.heap.objs.size+1)=some (PySem.W.instObj C s.heap.objs.size):=by
  have:=fy (s.heap.push PySem.W.emptyDict) (o:=PySem.W.instObj C s.heap.objs.size) rfl
  rwa[ni]at this
 have h:(s.heap.push PySem.W.emptyDict).Ns s.heap.objs.size (λ_=>none):=⟨PySem.W.emptyDict,#[],_,c,rfl,(λe j=>absurd j (by simp)),λ_=>rfl⟩;have I1:=I.laid (a:=s.heap.objs.size) (o:=.own (s.heap.objs.size+1)) (h':=s.heap.push PySem.W.emptyDict) (t':=s.toks) (λb u q=>c_ _ q) (eN _) ⟨_,c⟩;refine I1.laid (a:=s.heap.objs.size+1) (o:=.ins C s.heap.objs.size []) (t':=s.toks) (λb u q=>c_ _ q) (B_ (ni _ _)) ?_;have ne:s.heap.objs.size≠s.heap.objs.size+1:=h_ (rk _);refine⟨by rw[ao ne,ag],j1 _,ne,g,λ_=>none,(Heap.Ns1.of_empty h).at λo q=>c_ _ q,λ_=>True.intro,λy l=>absurd rfl l⟩
def Hn(c:attributeBase e f env (eval e env)=eval e env)(h:wpAny (model prog w) A (eval e env) (λo s₁=>wpAny (model prog w) A (getAttr o f true) Q E s₁) E s):wpAny (model prog w) A (eval (.Attribute e f g) env) Q E s:=Attribute_any_ h (by rw[arm_eval_Attribute,c])
end
def Ky(K:N1)(c:TE)(f:Str):TE:=λd H Q=>c d H λx b=>∃a C dx fs v,x=.ref a/\b a=some (.ins C dx fs)/\xj K C/\bZ K C f/\fs.lookup f=some v/\Q v b
def KL(K:N1)(d e:TE)(f:Str):TS:=λD b H=>e b H λy g=>d b g λx c=>∃a C dx fs,x=.ref a/\c a=some (.ins C dx fs)/\xj K C/\bZ K C f/\fs.length<1000/\D.nx b (aJ c a (.ins C dx (gj f y fs)))
section
variable{X:Cx}{o e d:Expr}{f:Str}{i g m:Pos}{j p:TE}
def Jc(r:PE X e j)(t:attributeBase e f X.env (eval e X.env)=eval e X.env):PE X (.Attribute e f i) (Ky X.K j f):=by intro b s k H Q I h;refine Hn t (cw (r b s k H _ I h) λu D w=>?_);obtain⟨x,y,I1,z,a,C,dx,fs,v,ex,A,c,n,l,q⟩:=w;subst ex;obtain rfl:u=Value.ref a:=z;exact Ae I1 A c n l λE F B ru=>⟨v,y,B,ru,q⟩
def IX(r:PE X o j)(t:PE X d p)(v:swapsWith d (some (.Attribute o f g)) i.line X.env=pure false):PS X (.Assign [.Attribute o f g] d i) (KL X.K j p f):=by intro b s k H D I h;refine plainObj_wpAny_Assign_Attribute (cw (t b s k H _ I h) λu w⟨y,z,I1,A,q⟩=>cw (r b w k z _ I1 q) λB M⟨x,N,E,F,a,C,dx,fs,ex,G,c,n,l,J⟩=>?_) v;subst ex;obtain rfl:B=Value.ref a:=F;exact zu E G c n l A λO L=>⟨k,_,L,J⟩
end
section
variable{X:Cx}{d:N3}{f:St}{H:Hp}{s:Shared}{A:Around}{E:N2}{Q:N2}{c:Value}{b:Bool}
inductive lZ(K:N1)(H:Hp):V->Value->Prop where|non:lZ K H .non (.type "NoneType")|bl(x:Bool):lZ K H (.bl x) (.type "bool")|int(i:Int):lZ K H (.int i) (.type "int")|str(x:Str):lZ K H (.str x) (.type "str")|flt(x:UInt64):lZ K H (.flt x) (.type "float")|lst{a:Addr}{xs:List V}(e:H a=some (.lst xs)):lZ K H (.ref a) (.type "list")|frz{a:Addr}{o:Obj}{xs:List V}(e:H a=some (.frz o (.lst xs))):lZ K H (.ref a) (.type "list")|tup{a:Addr}{xs:List V}(e:H a=some (.tup xs)):lZ K H (.ref a) (.type "tuple")|dK{a:Addr}{kvs:List (cu×V)}(e:H a=some (.dK kvs)):lZ K H (.ref a) (.type "dict")|dT{a:Addr}{kvs:List (List cu×V)}(e:H a=some (.dT kvs)):lZ K H (.ref a) (.type "dict")|ins{a C dx:Addr}{fs:List (Str×V)}(e:H a=some (.ins C dx fs))(cl:xj K C)(ha:PySem.W.findIn K (.ref C) "__class__"=some (some (.builtin "object.__class__")))(hn:PySem.W.specialIn K (.builtin "object.__class__") "__get__"=some (some (.builtin "getset_descriptor.__get__")))(htk:PySem.W.takesIn K (.builtin "object.__class__")=some true)(hm:PySem.W.mroIn K C (.type "object")=some true):lZ K H (.ref a) (.ref C)
def Cb(I:aN X d f H s)(g:aY x u)(ty:lZ X.K H x t)(e:PySem.W.kitOne X.K t c=some b)(h:∀tk,Q (.bool b) {s with toks:=tk}):wpAny (model X.prog X.w) A (call (.builtin "isinstance") [u,c]) Q E s:=by cases ty with|non=>cases(show u=Value.none from g);exact PySem.W.kia_one PySem.W.kitx_none I.kIn True.intro e (nofun) h|bl y=>cases(show u=Value.bool y from g);exact PySem.W.kia_one PySem.W.kitx_bool I.kIn True.intro e (nofun) h|int i=>obtain⟨t,q⟩:=(show∃t,u=Value.int i t from g);cases q;exact PySem.W.kia_one PySem.W.kitx_int I.kIn True.intro e (nofun) h|str y=>obtain⟨t,q⟩:=(show∃t,u=Value.str y t from g);cases q;exact PySem.W.kia_one PySem.W.kitx_str I.kIn True.intro e (nofun) h|flt y=>obtain⟨t,q⟩:=(show∃t,u=Value.float y t from g);cases q;exact PySem.W.kia_one PySem.W.kitx_float I.kIn True.intro e (nofun) h|@lst a l j=>cases(show u=Value.ref a from g);obtain⟨_,_,n,_,h1⟩:=(show dk X.prog X.w H s.heap a (.lst l)from I.hok a _ j);exact PySem.W.kia_one PySem.W.kitx_list I.kIn ⟨_,h1,rfl⟩ e (nofun) h|@frz a ob l j=>cases(show u=Value.ref a from g);obtain⟨_,_,_,n,_,h1⟩:=(show dk X.prog X.w H s.heap a (.frz ob (.lst l))from I.hok a _ j);exact PySem.W.kia_one PySem.W.kitx_list I.kIn ⟨_,h1,rfl⟩ e (nofun) h|@tup a l j=>cases(show u=Value.ref a from g);obtain⟨_,_,_,p⟩:=(show dk X.prog X.w H s.heap a (.tup l)from I.hok a _ j);obtain⟨o,h1,h2,_⟩:=p;exact PySem.W.kia_one PySem.W.kitx_tuple I.kIn ⟨o,h1,h2⟩ e (nofun) h|@dK a k j=>cases(show u=Value.ref a from g);obtain⟨_,_,D,_,p⟩:=(show dk X.prog X.w H s.heap a (.dK k)from I.hok a _ j);obtain⟨o,r,v,h1,h2,_⟩:=p;exact PySem.W.kia_one PySem.W.kitx_dict I.kIn ⟨o,h1,h2.1⟩ e (nofun) h|@dT a k j=>cases(show u=Value.ref a from g);obtain⟨_,_,l,_,o,r,v,h1,h2,_⟩:=(show dk X.prog X.w H s.heap a (.dT k)from I.hok a _ j);exact PySem.W.kia_one PySem.W.kitx_dict I.kIn ⟨o,h1,h2.1⟩ e (nofun) h|@ins a C dx fs j cl B hn m hm=>cases(show u=Value.ref a from g);obtain⟨F,O,_⟩:=rR I.hok j;obtain⟨G,J,_⟩:=O.look;exact PySem.W.kia_one (PySem.W.kitx_own (cl.get _) cl.hd B hn m hm) I.kIn J e (nofun) h
end
end L2
namespace L2
open PySem PySem.Spec PyProof.Rows
structure eQ(k:Nat)(A:Around):Prop where
 hd:A.handled=none
 dp:A.depth+3*k+5<recursionLimit
 un:A.units+16*k+200<cLine
def eQ.mono{j k:Nat}{A:Around}(r:eQ k A)(h:j<=k):eQ j A:=⟨r.hd,by have:=r.dp;lia,by have:=r.un;lia⟩
theorem eQ.deeper(r:eQ (k+1) A)(env:Env):eQ k (A.deeper env):=⟨r.hd,by have:=r.dp;show A.depth+1+3*k+5<_;lia,by have:=r.un;show A.units+3+16*k+200<_;lia⟩
def zW{A:Around}{C:Addr}{a:N5}{c:List (Str×Value)}:(A.under (.builtin "type.__call__" ⟨.ref C::a,c⟩)).depth=A.depth+1:=by first|rfl|simp[Around.under,Code.weight,Code.isCreation,Code.isGuard,Code.isCaller,Code.frames,Code.isFrame,guardIds]
def zV{A:Around}{C:Addr}{a:N5}{c:List (Str×Value)}:(A.under (.builtin "type.__call__" ⟨.ref C::a,c⟩)).units=A.units+1:=by first|rfl|simp[Around.under,Code.cUnits,Code.frames,Code.isFrame]
def eQ.make(r:eQ (k+1) A)(C:Addr)(a:N5)(c:List (Str×Value)):eQ k (A.under (.builtin "type.__call__" ⟨.ref C::a,c⟩)):=⟨r.hd,by have:=r.dp;rw[zW];lia,by have:=r.un;rw[zV];lia⟩
theorem eQ.depth{k:Nat}{A:Around}(r:eQ k A):A.depth<recursionLimit:=by have:=r.dp;lia
theorem eQ.units{k:Nat}{A:Around}(r:eQ k A):A.units+64<cLine:=by have:=r.un;lia
def Kv:TA:=λ_ H Q=>Q [] H
def KA(c:TE)(tr:TA):TA:=λa H Q=>c a H λx b=>tr a b λd e=>Q (x::d) e
section
variable{X:Cx}{e:Expr}{c:N8}{te:TE}{t:TA}{a:Pos}
def O:PA X [] Kv:=λ_ _ _ _ H Q I h=>rV ⟨[],H,I,.nil,h⟩
def ac(g:PE X e te)(i:PA X c t)(j:starEach (e::c) X.env=(false,eval e X.env)::starEach c X.env:=by rfl):PA X (e::c) (KA te t):=by intro a b s f H Q I h;rw[j];show wpAny _ _ (spliced ((false,eval e X.env)::backTo a (starEach c X.env))) _ _ s;refine oa (cw (g b s f H _ I h) λu k d=>?_);obtain⟨x,l,I1,m,n⟩:=d;refine cw (i a b k f l _ I1 n) λv w d=>?_;obtain⟨o,p,q,r2,r⟩:=d;exact⟨x::o,p,q,.cons m r2,r⟩
def LR(t:TA):TE:=λf H Q=>t f H λb d=>b.length<=sizeLine/\∀p,d p=none->Q (.ref p) (aJ d p (.tup b))
def LW(t:TA):TE:=λf H Q=>t f H λb d=>b.length<=sizeLine/\∀p,d p=none->Q (.ref p) (aJ d p (.lst b))
def bK{x1}(h:PA X c t):PE X (.Tuple c x1 a) (LR t):=by intro d s i H Q I j;refine wpAny_Tuple_spliced (cw (h a d s i H _ I j) λk f l=>?_);obtain⟨m,g,I1,r,z,q⟩:=l;refine⟨by rw[<-r.length];exact z,?_⟩;have n:g f.heap.objs.size=none:=I1.hok.fresh (eN _);refine⟨.ref f.heap.objs.size,aJ g f.heap.objs.size (.tup m),I1.laid (t':=f.toks) (λb u e=>c_ _ e) (eN _) ?_,rfl,q _ n⟩;exact⟨z,k,r,⟨_,fy _ rfl,rfl,_,rfl⟩⟩
def bu(h:PA X c t):PE X (.List c a) (LW t):=by intro d s i H Q I j;refine wpAny_List_spliced (cw (h a d s i H _ I j) λk f l=>?_);obtain⟨m,g,I1,r,z,q⟩:=l;refine⟨by rw[<-r.length];exact z,?_⟩;have n:g f.heap.objs.size=none:=I1.hok.fresh (eN _);refine⟨.ref f.heap.objs.size,aJ g f.heap.objs.size (.lst m),I1.laid (t':=f.toks) (λb u e=>c_ _ e) (eN _) ?_,rfl,q _ n⟩;exact⟨z,k,0,r,fy _ rfl⟩
end
abbrev Sp:=List V->Hp->VK->XK->Prop
abbrev zm:=List Env->Hp->Shared->XK->Value->Shared->Prop
structure Ax(P:N6)(w:World)(K:N1)(mg:N4)(base:Heap)(A:Around)(outer:List Env)(s:Shared)(H:Hp):Prop where
 frames:A.frames=some outer
 mod:Lz K mg base
 bs:∀b o,base.get? b=some o->s.heap.get? b=some o/\H b=none
 bsz:base.objs.size<=s.heap.objs.size
 funs:s.heap.FunFrames base outer
 frf:∀b∈jM outer,H b=none
 hok:lr P w H s.heap
 bare:AllBare s.gens
def CE(outer:List Env)(P:N6)(w:World)(H:Hp)(s:Shared)(Q:VK)(u:Value)(a:Shared):Prop:=∃v b,a.os=s.os/\AllBare a.gens/\Un (jM outer) [] H b s.heap a.heap/\lr P w b a.heap/\aY v u/\Q v b
def CR(c:zm)(outer:List Env)(P:N6)(w:World)(H:Hp)(s:Shared)(Q:VK)(E:XK)(r:Result)(a:Shared):Prop:=match r with|.ok (.ret u)=>CE outer P w H s Q u a|.ok _=>False|.error e=>c outer H s E e a
structure aQ(P:N6)(w:World)(K:N1)(mg:N4)(base:Heap)(CX:zm)(k:Nat)(f:Addr)(fd:FuncData)(ps:N7)(sp:Sp):Prop where
 len:∀vs H Q E,sp vs H Q E->vs.length=ps.length
 run:∀(A:Around)(outer:List Env)(s:Shared)(H:Hp)(args:Args)(us:N5)(vs:List V)(Q:VK)(E:XK),eQ k A->Ax P w K mg base A outer s H->BindsTo s fd args (ps.zip us)->be vs us->sp vs H Q E->codeAny (model P w) A (.call (.ref f) args) (CR CX outer P w H s Q E) s
theorem aQ.mono{P:N6}{w:World}{K:N1}{mg:N4}{base:Heap}{c:zm}{j k:Nat}{f:Addr}{fd:FuncData}{d:N7}{sp:Sp}(F:aQ P w K mg base c j f fd d sp)(h:j<=k):aQ P w K mg base c k f fd d sp:=⟨F.len,λA outer s H a b e Q E g=>F.run A outer s H a b e Q E (g.mono h)⟩
def Ax.make{P:N6}{w:World}{K:N1}{mg:N4}{base:Heap}{A:Around}{outer:List Env}{s:Shared}{H:Hp}(e:Ax P w K mg base A outer s H)(C:Addr)(a:N5)(c:List (Str×Value)):Ax P w K mg base (A.under (.builtin "type.__call__" ⟨.ref C::a,c⟩)) outer s H:=⟨by first|exact e.frames|(simpa[Around.under,Code.envs,Code.isFrame,pushEnvs]using e.frames),e.mod,e.bs,e.bsz,e.funs,e.frf,e.hok,e.bare⟩
section
variable{X:Cx}{a:N3}{c:St}{H:Hp}{s e:Shared}
def aN.env0(I:aN X a c H s):Ax X.prog X.w X.K X.mg X.base X.A X.stack s H:=⟨I.ok.frames,I.ok.mod,I.bs,j_ I.ok.bsz I.sz,I.stack,I.stkFree,I.hok,I.bare⟩
def aN.after(I:aN X a c H s)(h:CE X.stack X.prog X.w H s Q u e):EP X a c Q u e:=by obtain⟨v,i,os,bare,un,hok,r,q⟩:=h;obtain⟨hh,g,d,t,f⟩:=e;obtain rfl:f=s.os:=os;exact⟨v,i,I.call (h':=hh) (g':=g) (d':=d) (t':=t) (ch:=[]) un hok bare (λb z=>absurd z (by simp)),r,q⟩
end
def CO(sp:Sp)(a:List V)(E:XK)(t:TA):TE:=λb H Q=>t b H λc d=>sp (c++a) d Q E
def CM(C:Addr)(m:Str)(sp:Sp)(c:List V)(E:XK)(e:TE)(t:TA):TE:=λb H Q=>e b H λx d=>∃a dx fs,x=.ref a/\d a=some (.ins C dx fs)/\fs.lookup m=none/\t b d λf g=>sp (x::(f++c)) g Q E
def Kw(C:Addr)(sp:Sp)(a:List V)(E:XK)(t:TA):TE:=λc H Q=>t c H λd b=>∀x dx,b x=none->b dx=none->dx≠x->sp (.ref x::(d++a)) (aJ (aJ b dx (.own x)) x (.ins C dx [])) (λv e=>v=.non/\Q (.ref x) e) E
def fu(K:N1)(fd:FuncData)(c:N7)(ds:N5):Prop:=∀(s:Shared)(a:N5),K.In s.heap->(a++ds).length=c.length->BindsTo s fd ⟨a,[]⟩ (c.zip (a++ds))
def fu.all{K:N1}{fd:FuncData}{c:N7}(h:∀a:List Value,a.length=c.length->bindArgs fd ⟨a,[]⟩=pure (c.zip a)):fu K fd c []:=λs a _ hl=>by rw[qr]at hl⊢;exact .of_eq (h a hl)
def kT(c:zm)(X:Cx)(E:XK):Prop:=∀(a:N3)(d:St)(H:Hp)(s:Shared)(e:Value)(b:Shared),aN X a d H s->c X.stack H s E e b->X.xe e b
section
variable{X:Cx}{y:zm}{k:Nat}{f C:Addr}{fd:FuncData}{n:N7}{sp:Sp}{g:List V}{ds:N5}{E:XK}{x m:Str}{p d i:Pos}{e o:Expr}{j:N8}{z:TE}{t:TA}
def zA(F:aQ X.prog X.w X.K X.mg X.base y k f fd n sp)(l:eQ k X.A)(v:fu X.K fd n ds)(hd:be g ds)(B:kT y X E)(I:aN X a c H s)(r:be vs us)(h:sp (vs++g) H Q E):wpAny (model X.prog X.w) X.A (call (.ref f) us) (EP X a c Q) X.xe s:=by
 have r2:be (vs++g) (us++ds):=r.append hd;have hl:(us++ds).length=n.length:=by rw[<-r2.length];exact F.len _ _ _ _ h
 refine wpAny_call (wh (F.run X.A X.stack s H ⟨us,[]⟩ (us++ds) (vs++g) Q E l I.env0 (v s us I.kIn hl) r2 h) λr q b=>?_);cases r with|error e=>exact B a c H s e q I b|ok D=>cases D with|ret u=>exact I.after b|next=>exact False.elim b|brk=>exact False.elim b|cont=>exact False.elim b
def bB(F:aQ X.prog X.w X.K X.mg X.base y k f fd n sp)(u:eQ k X.A)(hg:Gl X x)(hm:X.mg x=some (.ref f))(v:PySem.W.keepIn X.K (.ref f)=true)(B:fu X.K fd n ds)(hd:be g ds)(D:kT y X E)(G:PA X (e::j) t)(c:(x==("__debug__":Str))=false:=by decide)(J:starEach (e::j) X.env=(false,eval e X.env)::starEach j X.env:=by rfl)(l:(backTo d (starEach j X.env)).any (·.1)=false:=by rfl):PE X (.Call (.Name x p) (e::j) [] d) (CO sp g E t):=by intro a s L H Q I h;refine qx (jx I hg hm ?_ c);refine PySem.W.callWith_K (h₀:=X.base) I.ok.mod.kin v (cw (G d a s L H _ I h) λM N⟨O,P,I1,r,q⟩=>⟨I1.kIn,?_⟩) J l;exact zA F u B hd D I1 r q
def bh(P:PE X o z)(c:xj X.K C)(hm:Fy X.K C m f)(F:aQ X.prog X.w X.K X.mg X.base y k f fd n sp)(R:eQ k X.A)(S:fu X.K fd n ds)(hd:be g ds)(T:kT y X E)(Z:PA X (e::j) t)(v:starEach (e::j) X.env=(false,eval e X.env)::starEach j X.env:=by rfl)(B:(backTo d (starEach j X.env)).any (·.1)=false:=by rfl)(ht:eval (.Call (.Attribute o m i) (e::j) [] d) X.env=(do
   let D<-eval o X.env
   standAt i.atName let(f,first)<-holding [D] (getMethod D m pl)callWith d f first (backTo d (starEach (e::j) X.env)) (backToKw d (keywordEach [] X.env))):=by rfl):PE X (.Call (.Attribute o m i) (e::j) [] d) (CM C m sp g E z t):=by intro b s G H Q I h;refine PySem.W.methodCall_KW (pl:=pl) (cw (P b s G H _ I h) λu O⟨x,U,I1,Y,a,dx,fs,ex,ea,l,q⟩=>?_) ht;subst ex;obtain rfl:u=Value.ref a:=Y;refine nH I1 ea c hm l ?_;refine PySem.W.callWith_K (first:=[.ref a]) (h₀:=X.base) I.ok.mod.kin hm.kp (cw (Z d b O G U _ I1 q) λL s2⟨M,H2,N,r,q2⟩=>⟨N.kIn,?_⟩) v B;exact zA (us:=.ref a::L) (vs:=.ref a::M) F R S hd T N (.cons rfl r) q2
def kc(v:PE X o z)(c:xj X.K C)(hm:Fy X.K C m f)(F:aQ X.prog X.w X.K X.mg X.base y k f fd n sp)(B:eQ k X.A)(D:fu X.K fd n ds)(hd:be g ds)(G:kT y X E)(J:eval (.Call (.Attribute o m i) [] [] d) X.env=(do
   let r<-eval o X.env
   standAt i.atName let(f,first)<-holding [r] (getMethod r m pl)callWith d f first (backTo d (starEach [] X.env)) (backToKw d (keywordEach [] X.env))):=by rfl):PE X (.Call (.Attribute o m i) [] [] d) (CM C m sp g E z Kv):=by intro b s L H Q I h;refine PySem.W.methodCall_KW (pl:=pl) (cw (v b s L H _ I h) λu O⟨x,P,I1,M,a,dx,fs,ex,N,l,q⟩=>?_) J;subst ex;obtain rfl:u=Value.ref a:=M;refine nH I1 N c hm l ?_;exact PySem.W.callWith_K0 (first:=[.ref a]) I1.kIn hm.kp (zA (us:=[.ref a]) (vs:=[.ref a]) F B D hd G I1 (.cons rfl .nil) q)
structure Mk(K:N1)(C f:Addr):Prop where
 makes:PySem.W.makesIn K C=true
 init:PySem.W.findIn K (.ref C) "__init__"=some (some (.ref f))fn:PySem.W.isFn K (.ref f)=true
 kp:PySem.W.keepIn K (.ref C)=true
def Dz(M:Mk X.K C f)(F:aQ X.prog X.w X.K X.mg X.base y k f fd n sp)(G:eQ (k+1) X.A)(J:fu X.K fd n ds)(hd:be g ds)(L:kT y X E)(I:aN X c B H s)(r:be D l)(h:∀x dx,H x=none->H dx=none->dx≠x->sp (.ref x::(D++g)) (aJ (aJ H dx (.own x)) x (.ins C dx [])) (λv N=>v=.non/\Q (.ref x) N) E):wpAny (model X.prog X.w) X.A (call (.ref C) l) (EP X c B Q) X.xe s:=by
 have q:=h (s.heap.objs.size+1) s.heap.objs.size (I.hok.fresh (ov _)) (I.hok.fresh (eN _)) (h_ (rk _));have b:=aN.made (C:=C) I;have r2:be (V.ref (s.heap.objs.size+1)::(D++g)) (Value.ref (s.heap.objs.size+1)::(l++ds)):=.cons rfl (r.append hd);have hl:(Value.ref (s.heap.objs.size+1)::l++ds).length=n.length:=by have e:=r2.length;rw[F.len _ _ _ _ q]at e;exact e.symm
 refine wpAny_call (Eh (f:=f) I.kIn M.makes M.init (beq_iff_eq.mp M.fn) (wh (F.run _ X.stack _ _ ⟨Value.ref (s.heap.objs.size+1)::l,[]⟩ (Value.ref (s.heap.objs.size+1)::(l++ds)) _ _ E (G.make C l []) (b.env0.make C l []) (J _ (Value.ref (s.heap.objs.size+1)::l) b.kIn hl) r2 q) λr O a=>?_))
 cases r with|error e=>exact L c B _ _ e O b a|ok P=>cases P with|ret u=>obtain⟨v,R,S,T,U,W⟩:=b.after a;subst U;exact⟨T,⟨V.ref (s.heap.objs.size+1),R,S,rfl,W⟩⟩|next=>exact False.elim a|brk=>exact False.elim a|cont=>exact False.elim a
def rP(M:Mk X.K C f)(F:aQ X.prog X.w X.K X.mg X.base y k f fd n sp)(u:eQ (k+1) X.A)(hg:Gl X x)(hm:X.mg x=some (.ref C))(v:fu X.K fd n ds)(hd:be g ds)(B:kT y X E)(D:PA X (e::j) t)(c:(x==("__debug__":Str))=false:=by decide)(G:starEach (e::j) X.env=(false,eval e X.env)::starEach j X.env:=by rfl)(l:(backTo d (starEach j X.env)).any (·.1)=false:=by rfl):PE X (.Call (.Name x p) (e::j) [] d) (Kw C sp g E t):=by intro a s J H Q I h;refine qx (jx I hg hm ?_ c);refine PySem.W.callWith_K (h₀:=X.base) I.ok.mod.kin M.kp (cw (D d a s J H _ I h) λL N⟨O,P,I1,r,q⟩=>⟨I1.kIn,?_⟩) G l;exact Dz M F u v hd B I1 r q
end
section
variable{X:Cx}{s:zm}{k:Nat}{f C:Addr}{fd:FuncData}{i j:N7}{sp:Sp}{E:XK}{x m:Str}{p h c a:Pos}{e o:Expr}{l:N8}{d:List Keyword}{te n:TE}{t tk:TA}{nm:Option Str}
variable{g:List Value->List Value->List Value}{r:List V->List V->List V}
end
structure av(N P:N7)(sc:Scope):Prop where
 kind:sc.kind=.function
 co:sc.isCoroutine=false
 gen:sc.isGenerator=false
 nd:N.Nodup
 pre:N.take P.length=P
 par:∀x∈P,sc.names.lookup x=some .local\/sc.names.lookup x=some .cell
 nofree:∀y∈sc.names,y.2≠.free
theorem vW{kindOf:Str->Option NameKind}{x:Str}:∀{binds:List (Str×Value)}{m:N4},(∀v,(x,v)∉binds)->bindL kindOf binds m x=m x
 |[],_,_=>rfl|(n,v)::r,m,h=>by
  unfold bindL;rw[vW λw a=>h w (g_ _ a)]
  split
  ·have:x≠n:=by rintro rfl;exact h v hF
   simp[this]
  ·rfl
theorem vY{kindOf:Str->Option NameKind}{x:Str}:∀{binds:List (Str×Value)}{m:N4},(∀v,(x,v)∉binds)->bindC kindOf binds m x=m x
 |[],_,_=>rfl|(n,v)::r,m,h=>by
  unfold bindC;rw[vY λw a=>h w (g_ _ a)]
  split
  ·rfl
  ·have:x≠n:=by rintro rfl;exact h v hF
   simp[this]
theorem vX{kindOf:Str->Option NameKind}{x:Str}{v:Value}:∀{P:N7}{a:N5}{i:Nat}{m:N4},P.Nodup->P[i]?=some x->a[i]?=some v->kindOf x=some .local->bindL kindOf (P.zip a) m x=some v|[],_,_,_,_,h,_,_=>by simp at h|_::_,[],_,_,_,_,h,_=>by simp at h|p::P,w::a,0,m,nd,h1,h2,b=>by simp at h1 h2;subst h1;subst h2;show bindL kindOf ((p,w)::P.zip a) m p=_;unfold bindL;rw[vW λv c=>(NW.mp nd).1 (MH c).1,gn b];simp|p::P,w::a,i+1,m,nd,h1,h2,b=>by show bindL kindOf ((p,w)::P.zip a) m x=_;unfold bindL;exact vX (i:=i) (NW.mp nd).2 (by simpa using h1) (by simpa using h2) b
theorem vZ{kindOf:Str->Option NameKind}{x:Str}{v:Value}:∀{P:N7}{a:N5}{i:Nat}{m:N4},P.Nodup->P[i]?=some x->a[i]?=some v->kindOf x≠some .local->bindC kindOf (P.zip a) m x=some v|[],_,_,_,_,h,_,_=>by simp at h|_::_,[],_,_,_,_,h,_=>by simp at h|p::P,w::a,0,m,nd,h1,h2,b=>by simp at h1 h2;subst h1;subst h2;show bindC kindOf ((p,w)::P.zip a) m p=_;unfold bindC;rw[vY λv c=>(NW.mp nd).1 (MH c).1,ge b];simp|p::P,w::a,i+1,m,nd,h1,h2,b=>by show bindC kindOf ((p,w)::P.zip a) m x=_;unfold bindC;exact vZ (i:=i) (NW.mp nd).2 (by simpa using h1) (by simpa using h2) b
def iP(N:N7)(a:List V):St:=a.map some++List.replicate (N.length-a.length) none
def qf(c:zm)(P:N6)(w:World)(K:N1)(mg:N4)(base:Heap)(N:N7)(a:Str)(scope:Scope)(f:Addr)(cd:Value)(A:Around)(outer:List Env)(s:Shared)(H:Hp)(E:XK):Cx where
 prog:=P
 w:=w
 K:=K
 mg:=mg
 base:=base
 A:=A.deeper (envOfC a scope s.heap.objs.size f cd)
 N:=N
 s₀:=s
 H₀:=H
 env:=envOfC a scope s.heap.objs.size f cd
 outer:=outer
 stack:=envOfC a scope s.heap.objs.size f cd::outer
 ex:=[]
 calm:=true
 fn:=λ_=>true
 pn:=[]
 xe:=λe d=>wpAny (model P w) (A.deeper (envOfC a scope s.heap.objs.size f cd)) (leaving (envOfC a scope s.heap.objs.size f cd) e) (λ_ b=>c outer H s E e b) (λg b=>c outer H s E g b) d
def yV{a:Scope}{n:Nat}{x:Str}(h:a.names.lookup x=some .cell):∃c,(cellsFrom n a.names []).lookup x=some c:=by have q:=PySem.W.cellsFrom_some a.names n [] (.inl h);exact D_.mp q
def Cc{D:zm}{P:N6}{w:World}{K:N1}{mg:N4}{base:Heap}{N j:N7}{d:Str}{scope:Scope}{f:Addr}{cd:Value}{A:Around}{outer:List Env}{s F:Shared}{H:Hp}{E:XK}{C:N5}{l:List V}(S:av N j scope)(hd:A.handled=none)(g:Ax P w K mg base A outer s H)(hl:l.length=j.length)(r:be l C)(x:InCallC s s.heap.objs.size (bindL (envOfC d scope s.heap.objs.size f cd).kindOf (j.zip C) λ_=>none) (cellsFrom (s.heap.objs.size+1) scope.names []) (bindC (envOfC d scope s.heap.objs.size f cd).kindOf (j.zip C) λ_=>none) F):aN (qf D P w K mg base N d scope f cd A outer s H E) [] (iP N l) H F:=by
 have J:j.length<=N.length:=by have:=ri List.length S.pre;rw[ji]at this;lia
 obtain⟨h1,tk,rfl,G⟩:=x.done;have m:∀b:Addr,b∉(qf D P w K mg base N d scope f cd A outer s H E).ex:=λb z=>absurd (show b∈([]:Oa)from z) (by simp);refine⟨⟨g.mod,S.kind,rfl,rfl,eN _,λy z c h1 h2=>?_,λy o=>?_,λy c _ h=>?_,λ_=>hd,Around.frames_deeper g.frames,.inr ⟨rfl,rfl⟩,λb z=>absurd z (m b),g.bs,g.bsz,λb _ _=>m b,λb z=>absurd z (m b),g.funs,g.frf⟩,rfl,g.bare,Un.kept G,⟨_,x.toInCall.ns,λi y v h1 h2 h3=>?_⟩,λy c h=>⟨_,x.cell y c h⟩,g.hok.fresh (eN _),λy c h=>?_,λp t=>absurd (show p∈([]:N3)from t) (by simp),g.hok.kept G,?_⟩
 ·exact name_of_addr x.apart (PySem.mem_of_lookup h1) (PySem.mem_of_lookup h2)
 ·have o:scope.names.lookup y=some .cell\/scope.names.lookup y=some .free:=o;rcases o with o|o
  ·exact yV o
  ·exact absurd rfl (S.nofree _ (PySem.mem_of_lookup o))
 ·exact rm (x.above y c (PySem.mem_of_lookup h))
 ·have hi:i<l.length:=by
   unfold iP at h2
   by_cases hi:i<l.length
   ·exact hi
   ·rw[t0 (by simpa using hi)]at h2;rw[List.getElem?_replicate]at h2
    split at h2<;>cases h2
  have L:l[i]?=some v:=by unfold iP at h2;rw[pu (by simpa using hi),f_]at h2;cases e:l[i]?with|none=>rw[e]at h2;cases h2|some a=>rw[e]at h2;cases h2;rfl
  obtain⟨u,I,M⟩:=r.get L;have t:j[i]?=some y:=by rw[<-S.pre,MZ (by lia)];exact h1
  have B:j.Nodup:=by rw[<-S.pre];exact S.nd.sublist (MT _ _)
  refine⟨u,M,?_⟩;rcases S.par y (e_ t)with k|k
  ·exact .inl ⟨k,vX B t I k⟩
  ·obtain⟨c,e⟩:=yV (n:=s.heap.objs.size+1) k;refine .inr ⟨.inl k,c,e,?_⟩;have q:=x.cell y c e;rw[vZ B t I (by show scope.names.lookup y≠_;rw[k];decide)]at q;exact q
 ·exact g.hok.fresh (rm (x.above y c (PySem.mem_of_lookup h)))
 ·unfold iP;show _=N.length;rw[ga,b_,Mt];lia
def HP{F:zm}{P:N6}{w:World}{K:N1}{mg:N4}{base:Heap}{k:Nat}{f:Addr}{j a:Str}{d:Arguments}{g:List Stmt}{scope:Scope}{X kV B pm c ct oc:Value}{Z od:Option Addr}{L:Array (Option Value)}{N G:N7}{sp:Sp}(lk:K.lookup f=some ⟨oc,od,.func (PySem.W.fnOf j a d g scope X kV B pm Z c ct),L⟩)(M:PySem.W.codeIn K c a=true)(S:av N G scope)(len:∀h H Q E,sp h H Q E->h.length=G.length)(m:∀(A:Around)(outer:List Env)(s:Shared)(H:Hp)(h:List V)(Q:VK)(E:XK),eQ k (A.deeper (envOfC a scope s.heap.objs.size f c))->sp h H Q E->∃t,uA (qf F P w K mg base N a scope f c A outer s H E) g t/\t {nx:=λ_ l=>Q .non l,rt:=Q} (iP N h) H):aQ P w K mg base F (k+1) f (PySem.W.fnOf j a d g scope X kV B pm Z c ct) G sp:=by
 refine⟨len,λA outer s H Y us h Q E O C hb r D=>?_⟩;have hl:=len _ _ _ _ D;have KX:K.In s.heap:=C.mod.kin.keeps λb o e=>(C.bs b o e).1;have R:s.heap.NoLimit:=C.mod.nolimit.keeps λb o e=>(C.bs b o e).1;have p:∀y∈G.zip us,scope.names.lookup y.1=some .local\/(scope.names.lookup y.1=some .cell/\((cellsFrom (s.heap.objs.size+1) scope.names []).lookup y.1).isSome=true):=λ⟨n,v⟩hy=>by
  rcases S.par n (MH hy).1 with q|q
  ·exact .inl q
  ·exact .inr ⟨q,PySem.W.cellsFrom_some _ _ _ (.inl q)⟩
 refine codeAny_call_function O.depth (KX _ _ lk) rfl S.co S.gen rfl (PySem.W.codeRec_of KX M) (hb _ _ _ _ ?_);refine wpAny_newFunctionEnv_cells S.kind p λenv he s1 x=>?_;subst he;refine⟨R.keeps x.toInCall.keep,codeAny_func ?_⟩;obtain⟨t,ht,hq⟩:=m A outer s H h Q E (O.deeper _) D;have I:aN (qf F P w K mg base N a scope f c A outer s H E) [] (iP N h) H s1:=Cc S O.hd C hl r x;refine wpAny_mono (ht [] s1 (iP N h) H _ I hq) (λfl T z=>?_) λe T z=>z;have fin:∀{i:St}{l:Hp}{v:V}{u:Value},aN (qf F P w K mg base N a scope f c A outer s H E) [] i l T->aY v u->Q v l->CE outer P w H s Q u T:=λ{i l v u}J U q=>⟨v,l,J.os,J.bare,J.base,J.hok,U,q⟩
 cases fl with|ret u=>obtain⟨v,i,l,J,U,q⟩:=z;exact fin J U q|next=>obtain⟨i,l,J,q⟩:=z;exact fin (v:=V.non) (u:=Value.none) J rfl q|brk=>obtain⟨_,_,_,q⟩:=z;exact False.elim q|cont=>obtain⟨_,_,_,q⟩:=z;exact False.elim q
end L2
namespace L2
open PySem PySem.Spec PyProof.Rows
section
variable{X:Cx}{x:Str}{p a:Pos}{e:Expr}{c:N8}{t:TA}{id T:String}{r:List V->Hp->VK->Prop}
def tCB(r:List V->Hp->VK->Prop)(t:TA):TE:=λb H Q=>t b H λd f=>r d f Q
def au(hc:db X (.builtin id) r)(hg:Gl X x)(hm:X.mg x=none)(i:bootBuiltins x=some (.builtin id))(j:PA X (e::c) t)(hn:x≠"__name__":=by decide)(d:(x==("__debug__":Str))=false:=by decide)(l:starEach (e::c) X.env=(false,eval e X.env)::starEach c X.env:=by rfl)(f:(backTo a (starEach c X.env)).any (·.1)=false:=by rfl):PE X (.Call (.Name x p) (e::c) [] a) (tCB r t):=by intro b s g H Q I h;refine qx (kQ I hg hm i ?_ hn d);exact PyProof.Rows.callWith_builtin1 (cw (j a b s g H _ I h) λk m⟨n,o,I1,q,u⟩=>hc b m g o n k Q I1 q u) l f
def dL(hc:db X (.type T) r)(hg:Gl X x)(hm:X.mg x=none)(i:bootBuiltins x=some (.type T))(j:PA X (e::c) t)(hn:x≠"__name__":=by decide)(d:(x==("__debug__":Str))=false:=by decide)(l:starEach (e::c) X.env=(false,eval e X.env)::starEach c X.env:=by rfl)(f:(backTo a (starEach c X.env)).any (·.1)=false:=by rfl):PE X (.Call (.Name x p) (e::c) [] a) (tCB r t):=by intro b s g H Q I h;refine qx (kQ I hg hm i ?_ hn d);exact tx (cw (j a b s g H _ I h) λk m⟨n,o,I1,q,u⟩=>hc b m g o n k Q I1 q u) l f
end
end L2
namespace HT
open PySem PyProof.Rows
section
open PySem.SeqAt
open PySem.AutoSeq1(wpAny_loadPart')
open PySem.MeetsSeq PySem.MeetsSeq2 PySem.MeetsSeq3
end
section
variable{prog:N6}{w:World}{A:Around}{E:N2}{s:Shared}
def Hj(p:IsTup s.heap t d.toArray)(r:IsTup s.heap b a.toArray)(m:d≠[])(h1:a=[]->Q (.ref t) s)(h2:a≠[]->Q (.ref s.heap.objs.size) {s with heap:=s.heap.push {cls:=.type "tuple",data:=.seq (d++a).toArray}})(l:d.length+a.length<=sizeLine):wpAny (model prog w) A (binaryOp .Add (.ref t) (.ref b)) Q E s:=by
 obtain⟨⟨cls,dd,data,sl⟩,j,hc,n,hd⟩:=id p;obtain⟨⟨o,f,data2,g⟩,c,h,n2,i⟩:=id r;simp only at hc hd h i;subst hc hd h i;have e:d.toArray++a.toArray=(d++a).toArray:=by simp
 by_cases k:a=[]
 ·exact concat_meets ⟨_,j,rfl⟩ ⟨_,c,rfl⟩ noFill_tuple_add seq_tuple_add PySem.F.slot_tuple_add PySem.F.entry_tuple_add (PySem.F.args_tuple_add_2 _ _) (tuple_addW1 t b d.toArray a.toArray n n2 dd f sl g (by simpa using m) (by simp[k])) ⟨j,c,h1 k⟩
 ·refine concat_meets ⟨_,j,rfl⟩ ⟨_,c,rfl⟩ noFill_tuple_add seq_tuple_add PySem.F.slot_tuple_add PySem.F.entry_tuple_add (PySem.F.args_tuple_add_2 _ _) (tuple_addW2 t b d.toArray a.toArray n n2 dd f sl g (by simpa using m) (by simpa using k) (by rw[hE,hE];exact l)) ⟨j,c,?_⟩
  rw[e];exact h2 k
def g9(n d:Nat):Option Int->Nat|none=>d|some v=>if v<0 then(v+(n:Int)).toNat else min v.toNat n
def Dy(n d:Nat):g9 n d none=d:=rfl
def IS(n d:Nat)(hd:d<=n)(o:Option Int):g9 n d o<=n:=by cases o with|none=>exact hd|some v=>
  show(if v<0 then(v+(n:Int)).toNat else min v.toNat n)<=n
  by_cases a:v<0
  ·rw[gn a];lia
  ·rw[ge a];exact Nat.min_le_right _ _
def A9(v:Int)(n d:Nat):(if v<0 then max (v+(n:Int)) 0 else min v (n:Int))=((g9 n d (some v):Nat):Int):=by
 show(if v<0 then max (v+(n:Int)) 0 else min v (n:Int))=(((if v<0 then(v+(n:Int)).toNat else min v.toNat n):Nat):Int)
 by_cases a:v<0
 ·simp only[gn a];lia
 ·simp only[ge a];lia
def Av(lo hi:Option Int)(n:Nat):Builtin.Slice.sliceAdjust lo hi 1 (n:Int)=(((g9 n 0 lo:Nat):Int),((g9 n n hi:Nat):Int)):=by
 have h1:¬((1:Int)<0):=by lia
 unfold Builtin.Slice.sliceAdjust;simp only[h1,M6];refine Prod.ext ?_ ?_
 ·cases lo with|none=>rfl|some v=>exact A9 v n 0
 ·cases hi with|none=>rfl|some v=>exact A9 v n n
def zF(i j:Nat):Builtin.Slice.slicePlaces (i:Int) (j:Int) 1=j-i:=by
 unfold Builtin.Slice.slicePlaces;have h1:(1:Int)>0:=by lia
 simp only[h1,NG,Int.ediv_one]
 split<;>lia
def sx(p:IsPart v o)(h:Q o s):wpAny (model prog w) A (Builtin.Slice.slicePartIndex v) Q E s:=by cases p with|none=>exact slicePart_none h|int i t=>exact slicePart_int h
def pF{sl:Addr}{c d:Value}{lo hi:Option Int}{n:Nat}{Q:Int×Int×Nat->Shared->Prop}(e:s.heap.IsSliceOf sl c d .none)(pl:IsPart c lo)(f:IsPart d hi)(h:Q (((g9 n 0 lo:Nat):Int),1,g9 n n hi-g9 n 0 lo) s):wpAny (model prog w) A (Builtin.Slice.sliceApplied (.ref sl) (pure (n:Int))) Q E s:=by obtain⟨os,a,g,b⟩:=id e;unfold Builtin.Slice.sliceApplied Builtin.Slice.sliceFields;refine a_ (a_ (rd a b (x:=c) rfl (a_ (rd a b (x:=d) rfl (a_ (rd a b (x:=.none) rfl (eH ?_)))))));refine a_ (slicePart_none ?_);show wpAny _ _ (if((1:Int)==0)=true then _ else _) _ _ s;rw[ge (by decide)];refine a_ (sx pl (a_ (sx f (a_ (eH ?_)))));show wpAny _ _ (match Builtin.Slice.sliceAdjust lo hi 1 (n:Int)with|(lo,hi)=>pure (lo,(1:Int),Builtin.Slice.slicePlaces lo hi 1)) _ _ s;rw[Av lo hi n];show wpAny _ _ (pure (((g9 n 0 lo:Nat):Int),(1:Int),Builtin.Slice.slicePlaces ((g9 n 0 lo:Nat):Int) ((g9 n n hi:Nat):Int) 1)) _ _ s;rw[zF];exact eH h
def DI(a:N9)(i k:Nat):((List.range k).filterMap λ(m:Nat)=>a[((i:Int)+(m:Int)*1).toNat]?).toArray=((a.toList.drop i).take k).toArray:=by
 have e:(λ(m:Nat)=>a[((i:Int)+(m:Int)*1).toNat]?)=λm=>a[i+m]?:=by
  funext m
  have:((i:Int)+(m:Int)*1).toNat=i+m:=by lia
  rw[this]
 rw[e];have:=pick_run a i k;rw[List.filterMap_map]at this;have b:((λx=>a[x]?)∘λx=>i+x)=λm=>a[i+m]?:=rfl;rw[b]at this;rw[this]
def o7{t sl:Addr}{a:N9}{i j:Value}{lo hi:Option Int}{Q:N2}(c:IsTup s.heap t a)(l:s.heap.IsSliceOf sl i j .none)(pl:IsPart i lo)(n:IsPart j hi)(o:¬(g9 a.size 0 lo=0/\g9 a.size a.size hi=a.size))(h:Q (.ref s.heap.objs.size) {s with heap:=s.heap.push {cls:=.type "tuple",data:=.seq ((a.toList.drop (g9 a.size 0 lo)).take (g9 a.size a.size hi-g9 a.size 0 lo)).toArray}})(p:a.size<=sizeLine):wpAny (model prog w) A (getItem (.ref t) (.ref sl)) Q E s:=by
 have b:sizeOk (.seq ((a.toList.drop (g9 a.size 0 lo)).take (g9 a.size a.size hi-g9 a.size 0 lo)).toArray):=by show((a.toList.drop (g9 a.size 0 lo)).take (g9 a.size a.size hi-g9 a.size 0 lo)).toArray.size<=sizeLine;rw[hE,ji,Mx,j2];lia
 have hj:g9 a.size a.size hi<=a.size:=IS _ _ (eN _) hi;obtain⟨os,d,e,r⟩:=id l;have f:s.TypeIs (.ref sl) "slice":=⟨os,d,e⟩;unfold getItem
 try with_reducible refine l_ ?_
 first|refine a_ (eH ?_)|skip
 refine a_ (NE c.typeIs (by decide) ?_);refine a_ (nk (name:=Str.ofString "__getitem__") c.typeIs NN (m3 NN c.typeIs entry_tuple_getitem ?_ (args_tuple_getitem _ _)))
 show wpAny _ _ (Builtin.Tuple.tupleItemsOf (.ref t)>>=_) _ _ s;refine a_ (tupleItemsOf_ c ?_);refine a_ (MN f ?_);rw[gn (by decide)];refine a_ (pF l pl n ?_);have g:¬((((g9 a.size 0 lo:Nat):Int)==0&&(1:Int)==1&&(g9 a.size a.size hi-g9 a.size 0 lo)==a.size)=true):=by intro q;rw[k4,k4]at q;have u:((g9 a.size 0 lo:Nat):Int)=0:=eq_of_beq q.1.1;have v:g9 a.size a.size hi-g9 a.size 0 lo=a.size:=eq_of_beq q.2;exact o ⟨by lia,by lia⟩
 show wpAny _ _ (if(((g9 a.size 0 lo:Nat):Int)==0&&(1:Int)==1&&(g9 a.size a.size hi-g9 a.size 0 lo)==a.size)=true then _ else _) _ _ s;rw[ge g,DI]
 first|exact a_ (m:=Builtin.Tuple.tupleExact _) (np (eH ⟨_,rfl,eH h⟩) b)|exact a_ (m:=Builtin.Tuple.tupleExact _) (np (a_ (eH (eH ⟨_,rfl,eH h⟩))) b)|exact a_ (a_ (m:=Builtin.Tuple.tupleExact _) (np (eH (eH ⟨_,rfl,eH h⟩)) b))|exact a_ (a_ (m:=Builtin.Tuple.tupleExact _) (np (eH ⟨_,rfl,eH h⟩) b))
end
end HT
namespace L2
open PySem PySem.Spec PyProof.Rows
abbrev TO:=St->Hp->(Option Int->Hp->Prop)->Prop
def PO(X:Cx)(e:Option Expr)(t:TO):Prop:=∀(a:N3)(s:Shared)(b:St)(H:Hp)(Q:Option Int->Hp->Prop),aN X a b H s->t b H Q->wpAny (model X.prog X.w) X.A (evalPart e X.env) (λu d=>∃o c,aN X a b c d/\IsPart u o/\Q o c) X.xe s
def FJ:TO:=λ_ H Q=>Q none H
def Kt(t:TE):TO:=λa H Q=>t a H λx b=>∃i,x=.int i/\Q (some i) b
def Aa:∀{a:N5},be (ns.map V.int) a->IntsAre a ns:=by induction ns with|nil=>intro a r;rw[List.map_nil]at r;cases r;exact .nil|cons n ns b=>intro a r;rw[ku]at r;cases r with|cons c r2=>obtain⟨t,e⟩:=c;subst e;exact .cons n t (b r2)
section
variable{X:Cx}{e:Expr}{te:TE}{lo hi:Option Expr}{d f:TO}{g c:Pos}
def iy:PO X none FJ:=by intro a s b H Q I h;rw[evalPart_none];exact eH ⟨none,H,I,.none,h⟩
def ix(h:PE X e te):PO X (some e) (Kt te):=by intro a s b H Q I j;rw[evalPart_some];refine cw (h a s b H _ I j) λu o k=>?_;obtain⟨x,l,I1,m,n⟩:=k;obtain⟨i,rfl,q⟩:=n;obtain⟨t,rfl⟩:=m;exact⟨some i,l,I1,.int i t,q⟩
def Ki(X:Cx)(r:V->Option Int->Option Int->Hp->VK->Prop):Prop:=∀(a:N3)(s:Shared)(b:St)(H:Hp)(x:V)(v h i:Value)(lo hi:Option Int)(sl:Addr)(Q:VK),aN X a b H s->aY x v->s.heap.IsSliceOf sl h i .none->IsPart h lo->IsPart i hi->r x lo hi H Q->∃T id,typeLookup (.type T) "__getitem__"=pure (some (.builtin id))/\s.TypeIs v T/\wpAny (model X.prog X.w) X.A (getItem v (.ref sl)) (EP X a b Q) X.xe s
def tSl(r:V->Option Int->Option Int->Hp->VK->Prop)(te:TE)(d f:TO):TE:=λa H Q=>te a H λx b=>d a b λl h=>f a h λu i=>r x l u i Q
def gk(p:Ki X r)(t:PE X e te)(hl:PO X lo d)(y:PO X hi f):PE X (.Subscript e (.Slice lo hi none c) g) (tSl r te d f):=by intro a s j H Q I h;refine Subscript_ (cw (t a s j H _ I h) λv z k=>?_);obtain⟨x,B,I1,C,D⟩:=k;refine wpAny_Slice (cw (hl a z j B _ I1 D) λm E k=>?_);obtain⟨l,F,G,pl,J⟩:=k;refine cw (y a E j F _ G J) λn i k=>?_;obtain⟨u,o,K,L,M⟩:=k;rw[evalPart_none];refine eH ?_;have N:aN X a j o {i with heap:=i.heap.push {cls:=.type "slice",data:=.fields #[m,n,.none]}}:=K.kept (t':=i.toks) λb ob q=>c_ _ q;obtain⟨T,id,O,P,hg⟩:=p a {i with heap:=i.heap.push {cls:=.type "slice",data:=.fields #[m,n,.none]}} j o x v m n l u i.heap.objs.size Q N C (Heap.IsSliceOf.new ..) pl L M;show wpAny (model X.prog X.w) X.A (subscriptTail e (.Slice lo hi none c) v (.ref i.heap.objs.size)) (EP X a j Q) X.xe {i with heap:=i.heap.push {cls:=.type "slice",data:=.fields #[m,n,.none]}};exact tail_any (ops:=[.ref i.heap.objs.size,v]) P O hg (by with_unfolding_all rfl)
def uZ(a:List V)(lo hi:Option Int):List V:=(a.drop (HT.g9 a.length 0 lo)).take (HT.g9 a.length a.length hi-HT.g9 a.length 0 lo)
def qS(a:List V)(lo hi:Option Int):(uZ a lo hi).length<=a.length:=by unfold uZ;rw[ji,Mx];lia
def KM(K:N1):V->Option Int->Option Int->Hp->VK->Prop:=λx lo hi H Q=>∃a b,x=.ref a/\bd K H a b/\¬(HT.g9 b.length 0 lo=0/\HT.g9 b.length b.length hi=b.length)/\∀p,H p=none->Q (.ref p) (aJ H p (.tup (uZ b lo hi)))
def IO:Ki X (KM X.K):=by
 intro l s y H x v z A lo hi sl Q I n p pl t h;obtain⟨a,j,rfl,u,w,q⟩:=h;cases n;obtain⟨k,r,m,hz⟩:=I.tuple u;have i:k.toArray.size=j.length:=by rw[hE];exact r.length.symm
 refine⟨"tuple",_,PyProof.Rows.slot_tuple_getitem.lookup,m.typeIs,?_⟩;refine HT.o7 m p pl t (by rw[i];exact w) ?_ (by rw[i];exact hz);rw[i];refine⟨.ref s.heap.objs.size,_,I.laid (t':=s.toks) (o:=.tup (uZ j lo hi)) (λb ob q=>c_ _ q) (eN _) ?_,rfl,q _ (I.hok.fresh (eN _))⟩;exact⟨j_ (qS j lo hi) hz,_,(r.drop (HT.g9 j.length 0 lo)).take (HT.g9 j.length j.length hi-HT.g9 j.length 0 lo),IsTup.new _ _⟩
def HF(K:N1):R2:=λx y H Q=>∃a b i h,x=.ref a/\y=.ref b/\bd K H a i/\bd K H b h/\i≠[]/\i.length+h.length<=sizeLine/\(h=[]->Q (.ref a) H)/\(h≠[]->∀p,H p=none->Q (.ref p) (aJ H p (.tup (i++h))))
def be.nil_iff(r:be a h):h=[]↔a=[]:=by cases r with|nil=>simp|cons _ _=>simp
def GD:lg X (binaryOp .Add) (HF X.K):=by intro j s F H x y v u Q I l m h;obtain⟨a,b,n,p,rfl,rfl,r,t,A,hz,B,C⟩:=h;cases l;cases m;obtain⟨D,i,E,_⟩:=I.tuple r;obtain⟨k,r2,c,_⟩:=I.tuple t;refine HT.Hj E c (λz=>A (i.nil_iff.mp z)) (λz=>⟨.ref a,H,I,rfl,B (r2.nil_iff.mp z)⟩) (λz=>?_) (by rw[<-i.length,<-r2.length];exact hz);refine⟨.ref s.heap.objs.size,_,I.laid (t':=s.toks) (o:=.tup (n++p)) (λb ob q=>c_ _ q) (eN _) ?_,rfl,C (λw=>z (r2.nil_iff.mpr w)) _ (I.hok.fresh (eN _))⟩;exact⟨by rw[ga];exact hz,_,i.append r2,IsTup.new _ _⟩
end
end L2
namespace L2
open PySem PySem.Spec PyProof.Rows
def G7(n:Nat)(i:Int):Option Nat:=if 0<=i then(if i<n then some i.toNat else none)else if-(n:Int)<=i then some (i+n).toNat else none
def um{a:Type}(c:List a)(i:Int):Option a:=(G7 c.length i).bind λj=>c[j]?
def AW(h:G7 n i=some j):seqIndex? i n=some j/\j<n/\-(n:Int)<=i/\i<n:=by
 unfold G7 at h
 by_cases h0:0<=i
 ·rw[gn h0]at h
  by_cases h1:i<n
  ·rw[gn h1]at h;have e:i.toNat=j:=ir h;exact⟨by rw[seqIndex_of h0 h1,e],by lia,by lia,h1⟩
  ·rw[ge h1]at h;cases h
 ·rw[ge h0]at h
  by_cases h1:-(n:Int)<=i
  ·rw[gn h1]at h;have e:(i+n).toNat=j:=ir h;exact⟨by rw[seqIndex_neg (by lia) h1,e],by lia,h1,by lia⟩
  ·rw[ge h1]at h;cases h
def w5(h:um a i=some v):∃j,seqIndex? i a.length=some j/\a[j]?=some v/\j<a.length/\-(a.length:Int)<=i/\i<a.length:=by unfold um at h;cases e:G7 a.length i with|none=>rw[e]at h;cases h|some j=>rw[e]at h;obtain⟨h1,h2,h3,h4⟩:=AW e;exact⟨j,h1,h,h2,h3,h4⟩
def xb(b:Expr):Prop:=∀o i,subscripted b false o i=operate [o,i] (getItem o i)
def Kl(X:Cx)(r:R2):Prop:=∀(c a:Expr)(b:N3)(s:Shared)(d:St)(H:Hp)(x y:V)(v u:Value)(Q:VK),aN X b d H s->aY x v->aY y u->r x y H Q->subscripted a false v u=operate [v,u] (getItem v u)->wpAny (model X.prog X.w) X.A (subscriptTail c a v u) (EP X b d Q) X.xe s
def Mm(X:Cx)(id:String)(r:V->List V->Hp->VK->Prop):Prop:=∀(a:N3)(s:Shared)(b:St)(H:Hp)(x:V)(c:List V)(v:Value)(d:N5)(Q:VK),aN X a b H s->aY x v->be c d->r x c H Q->wpAny (model X.prog X.w) X.A (call (.builtin id) (v::d)) (EP X a b Q) X.xe s
section
variable{X:Cx}{a b:Expr}{F E:TE}{D:Pos}
def xW(d:Kl X r)(e:PE X a F)(f:PE X b E)(g:xb b):PE X (.Subscript a b D) (J7 r F E):=by intro c s i H Q I h;exact Subscript_ (JV e f I h λv u j x y k l m n q=>d a b c j i k x y v u Q l m n q (g _ _))
def IU(K:N1):R2:=λx y H Q=>∃p c i v,x=.ref p/\y=.int i/\aX K H p c/\um c i=some v/\Q v H
def IT(K:N1):R2:=λx y H Q=>∃p c i v,x=.ref p/\y=.int i/\bd K H p c/\um c i=some v/\Q v H
def L5:R2:=λx y H Q=>∃z i c,x=.str z/\y=.int i/\z.length<=sizeLine/\um z.cps.toList i=some c/\Q (.str ⟨#[c]⟩) H
def GZ:Kl X (IU X.K):=by
 intro d e c s k H x y v u Q I n o h l;obtain⟨p,G,i,z,rfl,rfl,A,B,q⟩:=h;cases n;obtain⟨t,rfl⟩:=o;obtain⟨f,r,pl,hz⟩:=I.list A;obtain⟨j,h1,h2,h3,h4,h5⟩:=w5 B;obtain⟨w,m,g⟩:=r.get h2;have hl:=r.length;have hn:=pQ;have fin:EP X c k Q w s:=⟨z,H,I,g,q⟩
 by_cases h0:0<=i
 ·have hj:i.toNat=j:=by rw[seqIndex_of h0 h5]at h1;exact ir h1
  exact item_listR pl.isList h0 (by lia) (by rw[hj];simpa using m) fin l
 ·have hj:(i+(f.toArray.size:Int)).toNat=j:=by rw[seqIndex_neg (by lia) h4]at h1;rw[hE,<-hl];exact ir h1
  exact subscriptTail_builtinR (x:=w) pl.isList.typeIs slot_list_getitem.lookup (wpAny_getItem_list_neg (Q:=λr C=>r=w/\EP X c k Q r C) pl.isList (by lia) (by rw[hE]<;>lia) (by lia) (by rw[hj];simpa using m) ⟨rfl,fin⟩) l
def Jx:Kl X (IT X.K):=by intro d e c s g H x y v u Q I k l h m;obtain⟨p,G,i,z,rfl,rfl,n,o,q⟩:=h;cases k;obtain⟨t,rfl⟩:=l;obtain⟨A,r,pl,hz⟩:=I.tuple n;obtain⟨j,h1,h2,h3,h4,h5⟩:=w5 o;obtain⟨w,B,f⟩:=r.get h2;have hl:=r.length;have hn:=pQ;have fin:EP X c g Q w s:=⟨z,H,I,f,q⟩;exact subscriptTail_builtinR (x:=w) pl.typeIs slot_tuple_getitem.lookup (getItem_tuple (j:=j) (Q:=λr C=>r=w/\EP X c g Q r C) pl (by lia) (by lia) (by rw[hE,<-hl];exact h1) (by simpa using B) ⟨rfl,fin⟩) m
def zY:Kl X L5:=by
 intro d e f s p H x y v u Q I g k h l;obtain⟨z,i,c,rfl,rfl,hz,m,q⟩:=h;obtain⟨t,rfl⟩:=g;obtain⟨r,rfl⟩:=k;obtain⟨j,h1,h2,h3,h4,h5⟩:=w5 m;have hl:z.cps.toList.length=z.length:=by simp[Str.length]
 rw[hl]at h1 h4 h5;have hn:=pQ;exact tail_any (typeIs_str s z t) slot_str_getitem.lookup (getItem_str (c:=c) (by have n:decide (i< -(2^63:Int))=false:=iA (by lia);have o:decide (i>=2^63)=false:=iA (by lia);rw[n,o,Bool.or_false]) (by rw[h1];simpa using h2) ⟨.str ⟨#[c]⟩,H,I.tok _,⟨_,rfl⟩,q⟩) l
def zU(c:N5)(n j:Nat)(u:Value):Obj.mapSeq (·.setIfInBounds j u) {cls:=.type "list",data:=.seq c.toArray n}={cls:=.type "list",data:=.seq (c.set j u).toArray n}:=by simp[Obj.mapSeq]
theorem aN.lst(I:aN X d g H s)(h:H p=some (.lst f)):∃(c:N5)(n:Nat),be f c/\s.heap.get? p=some {cls:=.type "list",data:=.seq c.toArray n}/\f.length<=sizeLine:=by obtain⟨z,c,n,r,e⟩:=I.hok p _ h;exact⟨c,n,r,e,z⟩
def aN.lstUpd{d:N3}{l:St}{H:Hp}{s:Shared}{p:Addr}{o i:List V}{g c:N5}{n j:Nat}{f:Obj->Obj}(I:aN X d l H s)(h:H p=some (.lst o))(v:s.heap.get? p=some {cls:=.type "list",data:=.seq g.toArray n})(m:f {cls:=.type "list",data:=.seq g.toArray n}={cls:=.type "list",data:=.seq c.toArray j})(r:be i c)(hz:i.length<=sizeLine)(t:Nat):aN X d l (aJ H p (.lst i)) {s with heap:=s.heap.update p f,toks:=t}:=by
 have e:(s.heap.update p f).get? p=some {cls:=.type "list",data:=.seq c.toArray j}:=by rw[p_ f v (by rw[m]<;>rfl),m]
 refine I.write (x:=p) (e:=p) (by rw[h];trivial) (.inl rfl) (λb u k q=>(ry _ _ (mu k)).trans q) ⟨_,e⟩ ?_;exact⟨hz,c,j,r,e⟩
def KP:V->V->V->Hp->(Hp->Prop)->Prop:=λo i v H Q=>∃p c k j,o=.ref p/\i=.int k/\H p=some (.lst c)/\G7 c.length k=some j/\Q (aJ H p (.lst (c.set j v)))
def Dw:Hv X KP:=by
 intro c s m H o i v A iv u Q I w x y h;obtain⟨p,z,k,j,rfl,rfl,g,hj,q⟩:=h;cases w;obtain⟨t,rfl⟩:=x;obtain⟨d,n,r,e,hz⟩:=I.lst g;obtain⟨h1,h2,h3,h4⟩:=AW hj;have hl:=r.length;have hn:=pQ;have l:aN X c m (aJ H p (.lst (z.set j v))) {s with heap:=s.heap.update p (Obj.mapSeq (·.setIfInBounds j u))}:=I.lstUpd g e (zU d n j u) (r.set y j) (by rw[r3];exact hz) s.toks
 by_cases h0:0<=k
 ·have f:k.toNat=j:=by rw[seqIndex_of h0 h4]at h1;exact ir h1
  exact PySem.W.ki_setAt e h0 (by lia) (by rw[hE,<-hl];exact h4) (by rw[f];exact⟨_,l,q⟩)
 ·have f:(k+(d.toArray.size:Int)).toNat=j:=by rw[seqIndex_neg (by lia) h3]at h1;rw[hE,<-hl];exact ir h1
  exact PySem.W.ki_setBack e (by lia) (by rw[hE,<-hl];exact h3) (by lia) (by rw[f];exact⟨_,l,q⟩)
def wg(lo hi:Option Int)(n:Nat):(sliceBounds lo hi none n).1=((HT.g9 n 0 lo:Nat):Int)/\(sliceBounds lo hi none n).2.1=((HT.g9 n n hi:Nat):Int)/\(sliceBounds lo hi none n).2.2=1:=by
 refine⟨?_,?_,rfl⟩
 ·cases lo with|none=>simp[sliceBounds,HT.g9]|some i=>
   simp only[sliceBounds,HT.g9,Option.getD_none,show(1:Int)>0 by decide,NG]
   by_cases h:i<0
   ·simp only[h,NG]<;>lia
   ·simp only[h,M6]<;>lia
 ·cases hi with|none=>simp[sliceBounds,HT.g9]|some i=>
   simp only[sliceBounds,HT.g9,Option.getD_none,show(1:Int)>0 by decide,NG]
   by_cases h:i<0
   ·simp only[h,NG]<;>lia
   ·simp only[h,M6]<;>lia
def uD(c:N5)(lo hi:Option Int):slicePick c.toArray lo hi none=((c.drop (HT.g9 c.length 0 lo)).take (HT.g9 c.length c.length hi-HT.g9 c.length 0 lo)).toArray:=by obtain⟨h1,h2,h3⟩:=wg lo hi c.toArray.size;unfold slicePick;rw[h1,h2,h3];simp only[sliceRange_one,pick_run,hE]<;>rfl
def KN(K:N1):V->Option Int->Option Int->Hp->VK->Prop:=λx lo hi H Q=>∃a c,x=.ref a/\aX K H a c/\∀p,H p=none->Q (.ref p) (aJ H p (.lst (uZ c lo hi)))
def Gn:Ki X (KN X.K):=by intro e s m H x v n p lo hi sl Q I g i pl j h;obtain⟨a,c,rfl,k,q⟩:=h;cases g;obtain⟨l,r,f,hz⟩:=I.list k;have d:=r.length;refine⟨"list",_,slot_list_getitem.lookup,f.isList.typeIs,?_⟩;refine wpAny_getItem_list_slice f.isList i pl j .none (by simp) ?_ (by rw[hE]<;>lia);rw[uD,<-d];refine⟨.ref s.heap.objs.size,_,I.laid (t':=s.toks) (o:=.lst (uZ c lo hi)) (λb ob q=>c_ _ q) (eN _) ?_,rfl,q _ (I.hok.fresh (eN _))⟩;exact⟨j_ (qS c lo hi) hz,_,0,(r.drop (HT.g9 c.length 0 lo)).take (HT.g9 c.length c.length hi-HT.g9 c.length 0 lo),fy _ rfl⟩
def m7:V->Bool|.non=>true|.bl _=>true|.int _=>true|.str _=>true|_=>false
def HR:V->V->Bool|.non,.non=>true|.bl a,.bl b=>a==b|.bl a,.int b=>(if a then 1 else 0)==b|.int a,.bl b=>a==(if b then 1 else 0)|.int a,.int b=>a==b|.str a,.str b=>a==b|_,_=>false
def JM(e:aY y u)(c:aY x v)(g:m7 y=true)(f:m7 x=true):SeqAt.EqAt A s u v (HR y x):=by cases y with
 |non=>cases e;cases x with|non=>cases c;exact SeqAt.EqAt.same _|bl b=>cases c;exact SeqAt.EqAt.none_bool b|int b=>obtain⟨t,rfl⟩:=c;exact SeqAt.EqAt.none_int b t|str b=>obtain⟨t,rfl⟩:=c;exact SeqAt.EqAt.none_str b t|_=>exact absurd (show false=true from f) hA
 |bl a=>cases e;cases x with|non=>cases c;exact SeqAt.EqAt.bool_none a|bl b=>cases c;exact SeqAt.EqAt.bool_bool a b|int b=>obtain⟨t,rfl⟩:=c;exact SeqAt.EqAt.bool_int a b t|str b=>obtain⟨t,rfl⟩:=c;exact SeqAt.EqAt.bool_str a b t|_=>exact absurd (show false=true from f) hA
 |int a=>obtain⟨d,rfl⟩:=e;cases x with|non=>cases c;exact SeqAt.EqAt.int_none a d|bl b=>cases c;exact SeqAt.EqAt.int_bool a d b|int b=>obtain⟨t,rfl⟩:=c;exact SeqAt.EqAt.int_int a d b t|str b=>obtain⟨t,rfl⟩:=c;exact SeqAt.EqAt.int_str a d b t|_=>exact absurd (show false=true from f) hA
 |str a=>obtain⟨d,rfl⟩:=e;cases x with|non=>cases c;exact SeqAt.EqAt.str_none a d|bl b=>cases c;exact SeqAt.EqAt.str_bool a d b|int b=>obtain⟨t,rfl⟩:=c;exact SeqAt.EqAt.str_int a d b t|str b=>obtain⟨t,rfl⟩:=c;exact SeqAt.EqAt.str_str a d b t|_=>exact absurd (show false=true from f) hA
 |_=>exact absurd (show false=true from g) hA
def Ai(x:V)(u:Value):Bool:=match u with|.none=>HR .non x|.bool b=>HR (.bl b) x|.int i _=>HR (.int i) x|.str z _=>HR (.str z) x|_=>false
def EX(r:aY y u)(f:m7 y=true):Ai x u=HR y x:=by cases y with|non=>cases r;rfl|bl b=>cases r;rfl|int i=>obtain⟨t,rfl⟩:=r;rfl|str z=>obtain⟨t,rfl⟩:=r;rfl|_=>exact absurd (show false=true from f) hA
theorem pi:∀{c:List V}{d:N5},be c d->c.all m7=true->d.any (Ai x)=c.any λy=>HR y x|_,_,.nil,_=>rfl|y::c,u::d,.cons r t,f=>by rw[MA,k4]at f;rw[vl,vl,EX r f.1,pi t f.2]
theorem lU(g:aY x v)(h:m7 x=true):∀{d:List V}{e:N5},be d e->d.all m7=true->∀u∈e,SeqAt.EqAt A s u v (Ai x u)
 |_,_,.nil,_=>λu c=>by cases c|y::d,u::e,.cons r t,f=>λi c=>by
  rw[MA,k4]at f;rcases ot.mp c with rfl|c
  ·rw[EX r f.1];exact JM r g f.1 h
  ·exact lU g h t f.2 i c
def mw(x:V)(c:List V):Bool:=c.any λy=>HR y x
def LI(K:N1)(d:Bool):R2:=λx y H Q=>∃p c,y=.ref p/\(aX K H p c\/bd K H p c)/\m7 x=true/\c.all m7=true/\Q (.bl (if d then !mw x c else mw x c)) H
def BP:lg X (compareOp .In) (LI X.K false):=by
 intro f s k H x y v u Q I g j h;obtain⟨p,l,rfl,d,i,fs,q⟩:=h;cases j;rcases d with d|d
 ·obtain⟨c,r,pl,hz⟩:=I.list d;refine SeqAt.in_listAt (Ai x) pl.isList (λw e=>lU g i r fs w (by simpa using e)) ⟨.bl _,H,I,rfl,?_⟩;rw[show c.toArray.any (Ai x)=c.any (Ai x)by simp,pi r fs];exact q
 ·obtain⟨c,r,pl,hz⟩:=I.tuple d;refine SeqAt.in_tupleAt (Ai x) pl (λw e=>lU g i r fs w (by simpa using e)) ⟨.bl _,H,I,rfl,?_⟩;rw[show c.toArray.any (Ai x)=c.any (Ai x)by simp,pi r fs];exact q
def wB:lg X (compareOp .NotIn) (LI X.K true):=by
 intro f s k H x y v u Q I g j h;obtain⟨p,l,rfl,d,i,fs,q⟩:=h;cases j;rcases d with d|d
 ·obtain⟨c,r,pl,hz⟩:=I.list d;refine SeqAt.notIn_listAt (Ai x) pl.isList (λw e=>lU g i r fs w (by simpa using e)) ⟨.bl _,H,I,rfl,?_⟩;rw[show c.toArray.any (Ai x)=c.any (Ai x)by simp,pi r fs];exact q
 ·obtain⟨c,r,pl,hz⟩:=I.tuple d;refine SeqAt.notIn_tupleAt (Ai x) pl (λw e=>lU g i r fs w (by simpa using e)) ⟨.bl _,H,I,rfl,?_⟩;rw[show c.toArray.any (Ai x)=c.any (Ai x)by simp,pi r fs];exact q
def wV:db X (.type "list") (λt H Q=>∃p d,t=[.ref p]/\(aX X.K H p d\/bd X.K H p d)/\∀l,H l=none->Q (.ref l) (aJ H l (.lst d))):=by
 intro i s x H t z Q I r h;obtain⟨p,d,rfl,j,q⟩:=h;obtain⟨u,rfl,y⟩:=jO r;cases y;have fin:∀(c:N5),be d c->d.length<=sizeLine->∀(h':Heap)(f:Nat),(∀b v,s.heap.get? b=some v->h'.get? b=some v)->h'.get? s.heap.objs.size=some {cls:=.type "list",dict:=none,data:=.seq c.toArray f,slots:=#[]}->EP X i x Q (.ref s.heap.objs.size) {s with heap:=h'}:=λc g hz h' f kp e=>⟨.ref s.heap.objs.size,_,I.laid (t':=s.toks) kp (eN _) (show dk X.prog X.w _ h' _ (.lst d)from⟨hz,c,f,g,e⟩),rfl,q _ (I.hok.fresh (eN _))⟩
 rcases j with j|j
 ·obtain⟨c,g,pl,hz⟩:=I.list j;have k:=g.length;obtain⟨o,m,hc,n,hd⟩:=pl.isList;exact call_list_seq p (.inl rfl) m hc hd (λh' f kp e=>fin c g hz h' f kp e) (by simp only[hE]<;>lia)
 ·obtain⟨c,g,pl,hz⟩:=I.tuple j;have k:=g.length;obtain⟨o,m,hc,n,hd⟩:=pl;exact call_list_seq p (.inr rfl) m hc hd (λh' f kp e=>fin c g hz h' f kp e) (by simp only[hE]<;>lia)
def u3:db X (.type "tuple") (λj H Q=>∃p f,j=[.ref p]/\((aX X.K H p f/\∀l,H l=none->Q (.ref l) (aJ H l (.tup f)))\/(bd X.K H p f/\Q (.ref p) H))):=by
 intro c s k H j x Q I r h;obtain⟨p,f,rfl,h⟩:=h;obtain⟨u,rfl,n⟩:=jO r;cases n;rcases h with⟨g,q⟩|⟨g,q⟩
 ·obtain⟨d,i,pl,hz⟩:=I.list g;have m:=i.length;refine call_tuple_list pl.isList (λh' kp=>?_) (by simp only[hE]<;>lia);have I1:aN X c k H {s with heap:=h'}:=I.kept (t':=s.toks) kp;have v:aN X c k (aJ H h'.objs.size (.tup f)) {s with heap:=h'.push {cls:=.type "tuple",data:=.seq d.toArray}}:=I1.laid (t':=s.toks) (λb o e=>c_ _ e) (eN _) (show dk X.prog X.w _ _ _ (.tup f)from⟨hz,d,i,IsTup.new _ _⟩)
  exact⟨.ref h'.objs.size,_,v,rfl,q _ (I1.hok.fresh (eN _))⟩
 ·obtain⟨d,i,pl,hz⟩:=I.tuple g;exact call_tuple_same pl ⟨.ref p,H,I,rfl,q⟩
def tyV(K:N1)(T:String)(x:V)(H:Hp):Prop:=match x with|.str _=>T="str"|.int _=>T="int"|.ref p=>(T="list"/\∃d,aX K H p d)\/(T="tuple"/\∃o,K.lookup p=some o/\o.cls=.type "tuple"/\o.dict=none)\/(T="dict"/\((∃c,H p=some (.dK c))\/∃c,H p=some (.dT c)))\/(T="set"/\∃S n,H p=some (.set S n))|_=>False
def Ih(I:aN X h l H s)(r:aY x v)(ty:tyV X.K T x H):
 s.TypeIs v T/\∀a,v=.ref a->∃ob,s.heap.get? a=some ob/\ob.dict=none:=by cases x with|str z=>obtain⟨t,rfl⟩:=r;cases(show T="str"from ty);exact⟨typeIs_str s z t,λ_ e=>nomatch e⟩|int i=>obtain⟨t,rfl⟩:=r;cases(show T="int"from ty);exact⟨typeIs_int s i t,λ_ e=>nomatch e⟩|ref p=>
  cases r;rcases ty with⟨rfl,m,j⟩|⟨rfl,o,d,hc,hd⟩|⟨rfl,d⟩|⟨rfl,S,n,d⟩
  ·obtain⟨k,_,pl,_⟩:=I.list j;refine⟨pl.isList.typeIs,λa e=>?_⟩;cases e;obtain⟨o,n,e,c,hd,_⟩:=pl;exact⟨o,e,hd⟩
  ·refine⟨⟨o,I.kIn p o d,hc⟩,λa e=>?_⟩;cases e;exact⟨o,I.kIn _ o d,hd⟩
  ·have z:∃o,s.heap.get? p=some o/\o.ExactDict:=by
    rcases d with⟨f,d⟩|⟨f,d⟩
    ·obtain⟨_,_,_,_,o,_,_,e,ex,_⟩:=I.hok p _ d;exact⟨o,e,ex⟩
    ·obtain⟨_,_,_,_,o,_,_,e,ex,_⟩:=I.hok p _ d;exact⟨o,e,ex⟩
   obtain⟨o,e,ex⟩:=z;refine⟨⟨o,e,ex.1⟩,λa g=>?_⟩;cases g;exact⟨o,e,ex.2.1⟩
  ·obtain⟨o,_,_,_,e,ex,_⟩:=I.hok p _ d;refine⟨⟨o,e,ex.1⟩,λa g=>?_⟩;cases g;exact⟨o,e,ex.2.1⟩|_=>exact False.elim ty
def tBM(K:N1)(T:String)(r:V->List V->Hp->VK->Prop)(C:TE)(t:TA):TE:=λc H Q=>C c H λx d=>tyV K T x d/\t c d λe f=>r x e f Q
variable{o e:Expr}{m:N8}{C:TE}{t:TA}{g:Str}{B d:Pos}{T id:String}{r:V->List V->Hp->VK->Prop}
def KY(w:PlainAttrs T)(slot:Slot T g id)(n:typeOf (.builtin id)=pure (.type "method_descriptor"))(hm:Mm X id r)(y:PE X o C)(z:PA X (e::m) t)(i:attributeBase o g X.env (eval o X.env)=eval o X.env:=by rfl)(l:((backTo d (starEach (e::m) X.env)).all (λx=>!x.1)&&(backToKw d (keywordEach [] X.env)).all (λx=>x.1.isSome)&&decide ((e::m).length+([]:List Keyword).length+(if([]:List Keyword).isEmpty then 0 else 1)<30))=true:=by rfl)(j:(B.endLine==d.line)=true:=by rfl)(A:starEach (e::m) X.env=(false,eval e X.env)::starEach m X.env:=by rfl)(f:(backTo d (starEach m X.env)).any (·.1)=false:=by rfl):PE X (.Call (.Attribute o g B) (e::m) [] d) (tBM X.K T r C t):=by intro c s k H Q I h;refine wpAny_Call_method_late i l j rfl (cw (y c s k H _ I h) λv G p=>?_);obtain⟨x,J,I1,q,ty,L⟩:=p;obtain⟨h1,h2⟩:=Ih I1 q ty;refine⟨T,id,w,slot,n,h1,h2,?_⟩;have u:=z d c G k J _ I1 L;rw[A]at u⊢;refine pa (by show(false||(backTo d (starEach m X.env)).any (·.1))=false;rw[f]<;>rfl) (so ?_);refine cw u λM N p=>?_;obtain⟨O,P,R,r2,S⟩:=p;exact hm c N k P x O v M Q R q r2 S
end
end L2
namespace L2
open PySem PySem.Spec PyProof.Rows
def MtM(X:Cx)(id:String)(r:V->List V->Hp->VK->Prop):Prop:=∀(a:N3)(s:Shared)(b:St)(H:Hp)(x:V)(c:List V)(v:Value)(d:N5)(Q:VK),aN X a b H s->aY x v->be c d->r x c H Q->wpAny (model X.prog X.w) X.A (call (.builtin id) (v::d)) (EP X a b Q) X.xe s
def be.one:∀{x:V}{a:N5},be [x] a->∃u,a=[u]/\aY x u|_,_,.cons r .nil=>⟨_,rfl,r⟩
theorem be.reverse(h:be a c):be a.reverse c.reverse:=by induction h with|nil=>exact .nil|cons r t b=>rw[List.reverse_cons,List.reverse_cons];exact be.append b (.cons r .nil)
theorem be.rep(h:be a c):∀k:Nat,be (List.replicate k a).flatten (List.replicate k c).flatten|0=>.nil|k+1=>by rw[pv,pv,y2,y2];exact be.append h (be.rep h k)
theorem vK(a:N5):∀(k:Nat)(c:N5),List.foldl (λx1 d=>x1++d) c.toArray (List.replicate k a.toArray)=(c++(List.replicate k a).flatten).toArray
 |0,c=>by simp|k+1,c=>by
  have e:c.toArray++a.toArray=(c++a).toArray:=by simp
  have b:(c++a)++(List.replicate k a).flatten=c++(List.replicate (k+1) a).flatten:=by rw[pv,y2,u_]
  rw[<-b,<-vK a k (c++a),<-e,pv,th]
section
variable{X:Cx}{a:N3}{c:St}{H:Hp}{s:Shared}{l b:Addr}{g d i:List V}
def aN.lset{h its':N5}{n:Nat}{f:Array Value->Array Value}{j:Nat}(I:aN X a c H s)(m:H l=some (.lst g))(e:s.heap.get? l=some {cls:=.type "list",data:=.seq h.toArray n})(o:f h.toArray=its'.toArray)(p:be d its')(hz:d.length<=sizeLine):aN X a c (aJ H l (.lst d)) {s with heap:=s.heap.update l (Obj.mapSeq f),toks:=j}:=by have q:=PySem.IsL.update e f;rw[o]at q;refine I.write (x:=l) (e:=l) (by rw[m];exact trivial) (.inl rfl) (λt u k r=>(ry s.heap (Obj.mapSeq f) (mu k)).trans r) ⟨_,q⟩ ?_;exact⟨hz,its',_,p,q⟩
def aN.lnew(I:aN X a c H s)(f:be d e)(hz:d.length<=sizeLine):aN X a c (aJ H s.heap.objs.size (.lst d)) {s with heap:=s.heap.push {cls:=.type "list",data:=.seq e.toArray},toks:=t'}:=I.laid (λ_ _ q=>c_ _ q) (eN _) ⟨hz,e,0,f,fy _ rfl⟩
theorem aN.fresh(I:aN X a c H s):H s.heap.objs.size=none:=I.hok.fresh (eN _)
def aN.lstM(I:aN X a c H s)(h:H l=some (.lst g)):g.length<=sizeLine/\∃(f:N5)(n:Nat),be g f/\g.length=f.length/\s.heap.get? l=some {cls:=.type "list",data:=.seq f.toArray n}:=by obtain⟨z,f,n,r,e⟩:=I.hok l _ h;exact⟨z,f,n,r,r.length,e⟩
def ym{n:Nat}(h:n<=sizeLine):Builtin.List.listTooLong n=false:=by unfold Builtin.List.listTooLong;exact iA (by lia)
end
section
variable{X:Cx}
def Gq:V->List V->Hp->VK->Prop:=λx b H Q=>∃l a y,x=.ref l/\b=[y]/\H l=some (.lst a)/\a.length<sizeLine/\Q .non (aJ H l (.lst (a++[y])))
def eI:MtM X "list.append" Gq:=by intro b s i H x j v k Q I f g h;obtain⟨l,m,y,rfl,rfl,c,hz,q⟩:=h;cases f;obtain⟨u,rfl,ru⟩:=g.one;obtain⟨z,a,n,r,hl,e⟩:=I.lstM c;refine NB F.slot_list_append ⟨_,e,rfl⟩ F.entry_list_append (F.args_list_append_2 _ _) (PySem.list_append l a.toArray n u (by rw[hE];lia)) ⟨e,?_⟩;refine⟨.non,_,I.lset (its':=a++[u]) c e (by simp) (r.append (.cons ru .nil)) ?_,rfl,q⟩;rw[ga,List.length_singleton];lia
def Gp:V->List V->Hp->VK->Prop:=λx d H Q=>∃l b a c,x=.ref l/\d=[.ref b]/\H l=some (.lst a)/\H b=some (.lst c)/\a.length+c.length<=sizeLine/\Q .non (aJ H l (.lst (a++c)))
def vA:MtM X "list.extend" Gp:=by
 intro g s w H x y v A Q I k m h;obtain⟨l,b,B,C,rfl,rfl,i,o,hz,q⟩:=h;cases k;obtain⟨u,rfl,ru⟩:=m.one;cases ru;obtain⟨z,c,n,r,hl,e⟩:=I.lstM i;obtain⟨D,a,n2,r2,p,t⟩:=I.lstM o;have f:c.toArray.size+a.toArray.size<=sizeLine:=by rw[hE,hE];lia
 have d:¬(!c.toArray.isEmpty&&Builtin.List.listTooLong (c.toArray.size+a.toArray.size))=true:=by rw[ym f,Bool.and_false];exact hA
 refine NB F.slot_list_extend ⟨_,e,rfl⟩ F.entry_list_extend (F.args_list_extend_2 _ _) (AutoSeq1.list_extend_list_list_0 l c.toArray n b a.toArray n2 d (by rw[hE];lia) (by lia)) ⟨e,t,?_⟩
 refine⟨.non,_,I.lset (its':=c++a) i e (by simp) (r.append r2) ?_,rfl,q⟩;rw[ga];lia
def L6:R2:=λx y H Q=>∃l b a c,x=.ref l/\y=.ref b/\H l=some (.lst a)/\H b=some (.lst c)/\a.length+c.length<=sizeLine/\∀p,H p=none->Q (.ref p) (aJ H p (.lst (a++c)))
def wC:lg X (binaryOp .Add) L6:=by
 intro d s p H x y v u Q I f g h;obtain⟨l,b,t,w,rfl,rfl,i,j,hz,q⟩:=h;cases f;cases g;obtain⟨z,c,n,r,hl,e⟩:=I.lstM i;obtain⟨A,a,n2,r2,k,m⟩:=I.lstM j;refine PySem.P.add_list e m ?_ (by rw[hE,hE];lia);have o:c.toArray++a.toArray=(c++a).toArray:=by simp
 rw[o];exact⟨.ref _,_,I.lnew (t':=s.toks) (r.append r2) (by rw[ga];lia),rfl,q _ I.fresh⟩
def L4:R2:=λx y H Q=>∃l k a,x=.ref l/\y=.int k/\H l=some (.lst a)/\-(2^63)<=k/\k<2^63/\a.length*k.toNat<=sizeLine/\∀p,H p=none->Q (.ref p) (aJ H p (.lst (List.replicate k.toNat a).flatten))
def GV(a:List c)(k:Nat):(List.replicate k a).flatten.length=k*a.length:=by induction k with|zero=>simp|succ k b=>rw[pv,y2,ga,b,Nat.succ_mul,Nat.add_comm]
def DO:lg X (binaryOp .Mult) L4:=by
 intro o s D H x y v u Q I p w h;obtain⟨l,k,E,rfl,rfl,A,h1,h2,hz,q⟩:=h;cases p;obtain⟨t,rfl⟩:=w;obtain⟨z,b,n,r,hl,e⟩:=I.lstM A;have d:b.toArray.size*k.toNat<=sizeLine:=by rw[hE,<-hl];exact hz
 have f:¬b.toArray.size*k.toNat>(2^63-1)/8:=by
  have:(sizeLine:Nat)<=(2^63-1)/8:=by decide
  lia
 have g:¬(!Builtin.List.listFitsIndex k)=true:=by rw[fitsIndex_both h1 h2];exact hA
 have c:¬Builtin.List.listTooLong (b.toArray.size*k.toNat)=true:=by rw[ym d];exact hA
 have i:List.foldl (λx1 j=>x1++j) #[] (List.replicate (if b.toArray.isEmpty=true then 0 else k.toNat) b.toArray)=(List.replicate k.toNat b).flatten.toArray:=by
  have B:∀m:Nat,List.foldl (λx1 j=>x1++j) #[] (List.replicate m b.toArray)=(List.replicate m b).flatten.toArray:=λm=>by have:=vK b m [];rw[List.nil_append]at this;exact this
  rw[B];cases b with|nil=>simp|cons a G=>rw[ge (by simp)]
 refine wpAny_binaryOp_repeat_ref (T:="list") (U:="int") (by decide) ⟨_,e,rfl⟩ (λC=>typeIs_int C k t) noFill_list_mul F.fills_int_mul F.slot_int_rmul repeat_list F.slot_int_index.lookup (NB F.slot_int_rmul (typeIs_int s k t) F.entry_int_rmul (F.args_int_rmul_2 _ _) (int___rmul___int_list k t l b.toArray n) ⟨e,rfl,⟨_,e,rfl⟩,NB F.slot_list_mul ⟨_,e,rfl⟩ F.entry_list_mul (F.args_list_mul_2 _ _) (AutoListH.list___mul___list_int_3 l b.toArray n k t g f c) ⟨e,?_⟩⟩)
 rw[i];exact⟨.ref _,_,I.lnew (t':=s.toks) (r.rep k.toNat) (by rw[GV,Nat.mul_comm];exact hz),rfl,q _ I.fresh⟩
end
section
variable{prog:N6}{w:World}{A:Around}{E:N2}{s:Shared}
end
section
variable{X:Cx}
end
end L2
namespace L2
open PySem PySem.Spec PyProof.Rows
section
variable{c:Type}[DecidableEq c]
def bw(a:List (c×V))(k:c):Option V:=(a.find? λb=>decide (b.1=k)).map (·.2)
def fe(a:List (c×V))(k:c)(v:V):List (c×V):=if(a.any λb=>decide (b.1=k))=true then a.map (λb=>if b.1=k then(b.1,v)else b)else a++[(k,v)]
def dO(a:List (c×V))(k:c):List (c×V):=a.filter λb=>decide (b.1≠k)
def cI{p:c×V}{r:List (c×V)}{k:c}(e:p.1=k):bw (p::r) k=some p.2:=by simp[bw,o8,e]
def bP{p:c×V}{r:List (c×V)}{k:c}(e:¬p.1=k):bw (p::r) k=bw r k:=by simp[bw,o8,e]
theorem lu(k:c):∀a:List (c×V),(a.any λd=>decide (d.1=k))=(bw a k).isSome
 |[]=>rfl|p::r=>by
  rw[vl]
  by_cases e:p.1=k
  ·simp only[cI e,il e,Bool.true_or,Option.isSome_some]
  ·rw[bP e,iA e,Bool.false_or];exact lu k r
theorem xm(k j:c)(y:V):∀a:List (c×V),bw (a.map λd=>if d.1=k then(d.1,y)else d) j=(bw a j).map λx=>if j=k then y else x
 |[]=>rfl|p::r=>by
  have b:=xm k j y r;rw[ku]
  by_cases h:p.1=k
  ·rw[gn h]
   by_cases e:p.1=j
   ·rw[cI (p:=(p.1,y)) e,cI e,E1,gn (e.symm.trans h)]
   ·rw[bP (p:=(p.1,y)) e,bP e,b]
  ·rw[ge h]
   by_cases e:p.1=j
   ·rw[cI (p:=p) e,cI e,E1,ge (λz=>h (e.trans z))]
   ·rw[bP (p:=p) e,bP e,b]
theorem ve(k j:c)(y:V):∀a:List (c×V),bw a k=none->bw (a++[(k,y)]) j=if j=k then some y else bw a j
 |[],_=>by
  by_cases e:k=j
  ·rw[gn e.symm];exact cI (p:=(k,y)) e
  ·rw[ge (λz=>e z.symm)];exact bP (p:=(k,y)) e|p::r,hn=>by
  rw[List.cons_append];have b:¬p.1=k:=λz=>by rw[cI z]at hn;cases hn
  rw[bP b]at hn;have d:=ve k j y r hn
  by_cases e:p.1=j
  ·rw[cI e,cI e,ge (λz=>b (e.trans z))]
  ·rw[bP e,bP e,d]
def CG(d:List (c×V))(k j:c)(y:V):bw (fe d k y) j=if j=k then some y else bw d j:=by
 unfold fe
 by_cases a:(d.any λb=>decide (b.1=k))=true
 ·rw[gn a,xm];rw[lu]at a
  by_cases e:j=k
  ·obtain⟨x,f⟩:=D_.mp a;rw[gn e,e,f,E1,gn rfl]
  ·rw[ge e];cases bw d j with|none=>rfl|some x=>rw[E1,ge e]
 ·rw[ge a];refine ve k j y d ?_;rw[lu]at a;cases q:bw d k with|none=>rfl|some x=>rw[q]at a;exact(a rfl).elim
def lV(a:List (c×V))(k:c)(v:V):(fe a k v).length<=a.length+1:=by
 unfold fe
 split
 ·rw[b_];lia
 ·rw[ga,kl,Nl];lia
def oF{a:List (c×V)}{k:c}(v:V)(h:bw a k=none):fe a k v=a++[(k,v)]:=by unfold fe;rw[lu,h];exact ge (by decide)
def jK.isSome_eq(r:jK o u):o.isSome=u.isSome:=by cases o with
 |none=>cases u with|none=>rfl|some _=>exact(show False from r).elim
 |some _=>cases u with|none=>exact(show False from r).elim|some _=>rfl
theorem jK.getD(r:jK o u)(a:aY d e):aY (o.getD d) (u.getD e):=by cases o with
 |none=>cases u with|none=>exact a|some _=>exact(show False from r).elim
 |some _=>cases u with|none=>exact(show False from r).elim|some _=>exact r
def KV.val{a:List (c×V)}{g:List (c×Value)}(r:KV a g)(k:c):jK (bw a k) (valueAt g k):=by
 unfold KV at r
 induction r with|nil=>exact True.intro|@cons p q j d h t i=>
  obtain⟨h1,h2⟩:=h
  by_cases e:p.1=k
  ·have f:q.1=k:=h1.symm.trans e;have b:valueAt (q::d) k=some q.2:=by simp[valueAt,o8,f]
   rw[cI e,b];exact h2
  ·have f:¬q.1=k:=λz=>e (h1.trans z);have b:valueAt (q::d) k=valueAt d k:=by simp[valueAt,o8,f]
   rw[bP e,b];exact i
theorem KV.any(r:KV a e)(k:c):(a.any λd=>decide (d.1=k))=e.any λd=>decide (d.1=k):=by
 unfold KV at r
 induction r with|nil=>rfl|cons h t b=>rw[vl,vl,b,h.1]
def KV.repl(r:KV d f)(k:c)(g:aY y u):KV (d.map λa=>if a.1=k then(a.1,y)else a) (f.map λa=>if a.1=k then(a.1,u)else a):=by
 unfold KV at r⊢
 induction r with|nil=>exact .nil|@cons p q i j h t b=>
  rw[ku,ku];refine .cons ?_ b;obtain⟨h1,h2⟩:=h
  by_cases e:p.1=k
  ·rw[gn e,gn (h1.symm.trans e)];exact⟨h1,g⟩
  ·rw[ge e,ge (λz=>e (h1.trans z))];exact⟨h1,h2⟩
def KV.put(r:KV a d)(k:c)(f:aY y u):KV (fe a k y) (stored d k u):=by
 unfold fe stored;rw[r.any k]
 by_cases e:(d.any λb=>decide (b.1=k))=true
 ·rw[gn e,gn e];exact r.repl k f
 ·rw[ge e,ge e];exact Paired.snoc r ⟨rfl,f⟩
def KV.drop(r:KV d g)(k:c):KV (dO d k) (without g k):=by
 unfold KV at r⊢;unfold dO without
 induction r with|nil=>exact .nil|@cons p q j l h t f=>
  obtain⟨h1,h2⟩:=h;rw[Nb,Nb]
  by_cases e:p.1=k
  ·have a:¬decide (p.1≠k)=true:=by simp[e]
   have b:¬decide (q.1≠k)=true:=by simp[h1.symm.trans e]
   rw[ge a,ge b];exact f
  ·have i:¬q.1=k:=λz=>e (h1.trans z);have a:decide (p.1≠k)=true:=by simp[e]
   have b:decide (q.1≠k)=true:=by simp[i]
   rw[gn a,gn b];exact .cons ⟨h1,h2⟩ f
theorem KV.length(r:KV a d):a.length=d.length:=Paired.length r
def yO(a:List (c×V))(k:c):(dO a k).length<=a.length:=pw _ _
end
def oX(r:aY (kV k) u):(aW P w).is k u=true:=by cases k with|inl i=>obtain⟨t,e⟩:=(show∃t,u=Value.int i t from r);subst e;exact yt P w i t|inr x=>obtain⟨t,e⟩:=(show∃t,u=Value.str x t from r);subst e;exact qM P w x t
theorem pZ:∀{a:List cu}{c:N5},be (a.map kV) c->ItemsAre (aW P w) a c|[],_,r=>by rw[List.map_nil]at r;cases r;exact .nil|k::a,_,r=>by rw[ku]at r;cases r with|cons h t=>exact .cons (oX h) (pZ t)
abbrev KT(H:Hp):List (List cu×V)->List (List cu×Addr×Value)->Prop:=Paired λp q=>p.1=q.1/\H q.2.1=some (.tup (p.1.map kV))/\aY p.2 q.2.2
def KT.val{H:Hp}{a:List (List cu×V)}{f:List (List cu×Addr×Value)}(r:KT H a f)(k:List cu):jK (bw a k) ((atKey f k).map (·.2)):=by induction r with|nil=>exact True.intro|@cons p q i c h t g=>
  obtain⟨h1,_,h2⟩:=h
  by_cases e:p.1=k
  ·have d:q.1=k:=h1.symm.trans e;have b:atKey (q::c) k=some q.2:=by simp[atKey,o8,d]
   rw[cI e,b];exact h2
  ·have d:¬q.1=k:=λz=>e (h1.trans z);have b:atKey (q::c) k=atKey c k:=by simp[atKey,o8,d]
   rw[bP e,b];exact g
def KT.repl(r:KT H a d)(k:List cu)(f:aY y u):KT H (a.map λc=>if c.1=k then(c.1,y)else c) (d.map (putAt k u)):=by induction r with|nil=>exact .nil|@cons p q g i h t b=>
  rw[ku,ku];refine .cons ?_ b;obtain⟨h1,h2,h3⟩:=h;unfold putAt
  by_cases e:p.1=k
  ·rw[gn e,gn (h1.symm.trans e)];exact⟨h1,h2,f⟩
  ·rw[ge e,ge (λz=>e (h1.trans z))];exact⟨h1,h2,h3⟩
def KT.put(r:KT H a c)(k:List cu)(f:H b=some (.tup (k.map kV)))(d:aY y u):KT H (fe a k y) (storedH c k b u):=by
 have e:(a.any λg=>decide (g.1=k))=(atKey c k).isSome:=by rw[lu,(r.val k).isSome_eq,NH]
 unfold fe storedH;rw[e]
 by_cases q:(atKey c k).isSome=true
 ·rw[gn q,gn q];exact r.repl k d
 ·rw[ge q,ge q];exact Paired.snoc r ⟨rfl,f,d⟩
def KT.keeps(r:KT H a d)(e:∀b c,H b=some (.tup c)->f b=some (.tup c)):KT f a d:=Paired.mapP r λ_ _ z=>⟨z.1,e _ _ z.2.1,z.2.2⟩
section
variable{P:N6}{w:World}{H:Hp}{h:Heap}{a:Addr}
def HE(ok:lr P w H h)(e:Rd H a u):dk P w H h a u:=e.ok ok
def qR(ok:lr P w H h)(e:Rd H a (.dK c)):c.length<=sizeLine/\(a==sysModules)=false/\∃d,KV c d/\h.DictOf (aW P w) a d:=show dk P w H h a (.dK c)from HE ok e
def HS(ok:lr P w H h)(e:H a=some (.dK c)):c.length<=sizeLine/\(a==sysModules)=false/\∃d,KV c d/\h.DictOf (aW P w) a d:=qR ok (.inl e)
def nE(ok:lr P w H h)(e:H a=some (.tup (c.map kV))):(tupleKind (aW P w)).is h c a:=by obtain⟨_,b,r,o,h1,h2,n,h3⟩:=(show dk P w H h a (.tup (c.map kV))from ok a _ e);exact⟨o,b.toArray,n,h1,h2,h3,by simpa using pZ r⟩
def qQ(ok:lr P w H h)(e:Rd H a (.dT c)):c.length<=sizeLine/\(a==sysModules)=false/\∃d,KT H c d/\h.DictOfH (tupleKind (aW P w)) a d:=by
 obtain⟨z,y,d,r,o,g,i,h1,h2,h3,h4,h5⟩:=(show dk P w H h a (.dT c)from HE ok e);refine⟨z,y,d,r,o,g,i,h1,h2,h3,h4,λx b=>?_,h5⟩;have all:∀{l:List (List cu×V)}{m:List (List cu×Addr×Value)},KT H l m->∀x∈m,(tupleKind (aW P w)).is h x.1 x.2.1:=by
  intro l m q
  induction q with|nil=>intro x b;exact nomatch b|@cons p q k n f t j=>
   intro x b;rcases ot.mp b with e|b
   ·subst e;exact nE ok (by rw[<-f.1];exact f.2.1)
   ·exact j x b
 exact all r x b
def Lr(ok:lr P w H h)(e:H a=some (.dT c)):c.length<=sizeLine/\(a==sysModules)=false/\∃d,KT H c d/\h.DictOfH (tupleKind (aW P w)) a d:=qQ ok (.inl e)
end
def dR(H:Hp)(a:Addr)(y:V)(r:Option V):Prop:=(∃c k,Rd H a (.dK c)/\y=kV k/\r=bw c k)\/∃c k b,Rd H a (.dT c)/\y=.ref b/\H b=some (.tup (k.map kV))/\r=bw c k
def Hz(H:Hp)(a:Addr)(y v:V)(d:Hp):Prop:=(∃c k,H a=some (.dK c)/\y=kV k/\c.length<sizeLine/\d=aJ H a (.dK (fe c k v)))\/∃c k b,H a=some (.dT c)/\y=.ref b/\H b=some (.tup (k.map kV))/\c.length<sizeLine/\d=aJ H a (.dT (fe c k v))
theorem dR.k{H:Hp}{a:Addr}{c:List (cu×V)}{k:cu}(e:H a=some (.dK c)):dR H a (kV k) (bw c k):=.inl ⟨c,k,.inl e,rfl,rfl⟩
theorem Hz.k{H:Hp}{a:Addr}{c:List (cu×V)}{k:cu}{v:V}(e:H a=some (.dK c))(hl:c.length<sizeLine):Hz H a (kV k) v (aJ H a (.dK (fe c k v))):=.inl ⟨c,k,e,rfl,hl,rfl⟩
section
variable{X:Cx}{d:N3}{f:St}{H:Hp}{s:Shared}{a:Addr}{y v:V}{u r:Value}{o:Option V}{A:Around}{E:N2}
def aN.big(I:aN X d f H s):sysModules<s.heap.objs.size:=by have h:mainGlobals<s.heap.objs.size:=(I.mod.glob.keeps I.bk).lt;exact t8 (by decide) h
def Ck(C:A.units+1<cLine)(I:aN X d f H s)(g:dR H a y (some v))(x:aY y u)(h:∀j B,aN X d f H B->aY v j->Q j B):wpAny (model X.prog X.w) A (getItem (.ref a) u) Q E s:=by
 rcases g with⟨m,k,e,n,l⟩|⟨m,k,b,e,n,D,l⟩
 ·subst n;obtain⟨z,hd,F,c,dd⟩:=qR I.hok e;obtain⟨j,q,i⟩:=jK.some_of (v:=v) (o:=valueAt F k) (by rw[l];exact c.val k);exact wpAny_getItem_of (oX x) dd.mapOf q (h j _ (I.tok _) i)
 ·subst n;cases(show u=Value.ref b from x);obtain⟨z,hd,G,c,dd⟩:=qQ I.hok e;obtain⟨j,q,i⟩:=jK.some_of (v:=v) (o:=(atKey G k).map (·.2)) (by rw[l];exact c.val k);obtain⟨p,J,t⟩:=Option.map_eq_some_iff.mp q;refine wpAny_getItem_heap (v_ C) (nE I.hok D) dd J ?_;rw[t];exact h j _ (I.tok _) i
def Md(p:A.units+1<cLine)(I:aN X d f H s)(g:dR H a y o)(m:aY y u)(h:∀n,aN X d f H n->Q (.bool o.isSome) n):wpAny (model X.prog X.w) A (compareOp .In u (.ref a)) Q E s:=by
 rcases g with⟨i,k,e,j,l⟩|⟨i,k,b,e,j,t,l⟩
 ·subst j;obtain⟨z,hd,x,c,dd⟩:=qR I.hok e;refine wpAny_in_of (oX m) hd dd.mapOf ?_;rw[<-(c.val k).isSome_eq,<-l];exact h _ (I.tok _)
 ·subst j;cases(show u=Value.ref b from m);obtain⟨z,hd,B,c,dd⟩:=qQ I.hok e;refine wpAny_in_heap (v_ p) (nE I.hok t) hd dd ?_;have q:=(c.val k).isSome_eq;rw[NH]at q;rw[<-q,<-l];exact h _ (I.tok _)
def A7(p:A.units+1<cLine)(I:aN X d f H s)(g:dR H a y o)(m:aY y u)(h:∀n,aN X d f H n->Q (.bool (!o.isSome)) n):wpAny (model X.prog X.w) A (compareOp .NotIn u (.ref a)) Q E s:=by
 rcases g with⟨i,k,e,j,l⟩|⟨i,k,b,e,j,t,l⟩
 ·subst j;obtain⟨z,hd,x,c,dd⟩:=qR I.hok e;refine wpAny_notIn_of (oX m) hd dd.mapOf ?_;rw[<-(c.val k).isSome_eq,<-l];exact h _ (I.tok _)
 ·subst j;cases(show u=Value.ref b from m);obtain⟨z,hd,B,c,dd⟩:=qQ I.hok e;refine wpAny_notIn_heap (v_ p) (nE I.hok t) hd dd ?_;have q:=(c.val k).isSome_eq;rw[NH]at q;rw[<-q,<-l];exact h _ (I.tok _)
def rS(I:aN X d f H s)(c:Ly (H a))(g:Heap.SameBut a s.heap h')(h:∃q,h'.get? a=some q)(new:dk X.prog X.w (aJ H a ob) h' a ob):aN X d f (aJ H a ob) {s with heap:=h',toks:=j}:=I.write (x:=a) (e:=a) c (.inl rfl) (λb q i z=>(g.2 b i).trans z) h new
def E3(z:c.length<=sizeLine)(hd:(a==sysModules)=false)(e:KV c g)(dd:h'.DictOf (aW P w) a g):dk P w h h' a (.dK c):=⟨z,hd,g,e,dd⟩
def Cj(L:A.units+1<cLine)(I:aN X d f H s)(g:Hz H a y v M)(C:aY y u)(D:aY v r)(h:∀F,aN X d f M F->Q () F):wpAny (model X.prog X.w) A (setItem (.ref a) u r) Q E s:=by
 rcases g with⟨i,k,e,p,l,t⟩|⟨i,k,b,e,p,G,l,t⟩
 ·subst p t;obtain⟨z,hd,K,j,dd⟩:=HS I.hok e;have hz:K.length<=sizeLine:=by rw[<-j.length];exact z
  have hl:(fe i k v).length<=sizeLine:=by have:=lV i k v;lia
  refine wpAny_setItem_pairs (hsz:=hz) (oX C) dd λh' m B=>h _ ?_;have N:∃q,h'.get? a=some q:=let⟨q,_,_,n,_⟩:=m;⟨q,n⟩;exact rS I (by rw[e];exact True.intro) B N (E3 hl hd (j.put k D) m)
 ·subst p t;cases(show u=Value.ref b from C);obtain⟨z,hd,O,j,dd⟩:=Lr I.hok e;have hz:O.length<=sizeLine:=by rw[<-Paired.length j];exact z
  have hl:(fe i k v).length<=sizeLine:=by have:=lV i k v;lia
  refine wpAny_setItem_heap (hsz:=hz) (v_ L) (nE I.hok G) dd λh' m B=>h _ ?_;obtain⟨q,P,R,n,h2,h3,h4,_,h5⟩:=m;refine rS I (by rw[e];exact True.intro) B ⟨q,n⟩ ⟨hl,hd,_,(j.put k G D).keeps λc S J=>?_,q,P,R,n,h2,h3,h4,h5⟩;rw[ao (K0 J e (nofun))];exact J
end
section
variable{X:Cx}{d:N3}{f:St}{H:Hp}{s:Shared}{a:Addr}{c:List (cu×V)}{k:cu}{u:Value}{A:Around}{E:N2}
def Ls(I:aN X d f H s)(e:H a=some (.dK c))(n:aY (kV k) u)(l:bw c k=some v)(hm:g=[]\/∃x,g=[x])(h:∀j r,aN X d f (aJ H a (.dK (dO c k))) r->aY v j->Q j r):wpAny (model X.prog X.w) A (call (.builtin "dict.pop") (.ref a::u::g)) Q E s:=by
 obtain⟨z,hd,y,b,dd⟩:=HS I.hok e;obtain⟨j,B,p⟩:=jK.some_of (v:=v) (o:=valueAt y k) (by rw[<-l];exact b.val k);have C:(keyPart u).isSome=true:=by cases k with|inl i=>obtain⟨t,q⟩:=(show∃t,u=Value.int i t from n);subst q;rfl|inr x=>obtain⟨t,q⟩:=(show∃t,u=Value.str x t from n);subst q;rfl
 have D:argsOk "dict.pop" ⟨.ref a::u::g,[]⟩:=by
  rcases hm with q|⟨x,q⟩
  ·subst q;exact PySem.F.args_dict_pop_2 _ _
  ·subst q;exact PySem.F.args_dict_pop_3 _ _ _
 refine wr PySem.F.slot_dict_pop dd.typeIs PySem.F.entry_dict_pop D (meets_dict_pop_there (aW X.prog X.w) a (oX n) g hm C) ⟨y,j,dd,by rw[<-b.length];exact z,B,λh' m G=>h j _ ?_ p⟩
 have J:∃q,h'.get? a=some q:=let⟨q,_,_,K,_⟩:=m;⟨q,K⟩;exact rS I (by rw[e];exact True.intro) G J (E3 (j_ (yO c k) z) hd (b.drop k) m)
end
def J2(i:Expr):Prop:=∀a iv,subscripted i false a iv=operate [a,iv] (getItem a iv)
def Ay{prog:N6}{w:World}{A:Around}{E:N2}{s:Shared}{env:Env}{c a:Expr}{j:Pos}{T id:String}{Q:N2}(hl:typeLookup (.type T) "__getitem__"=pure (some (.builtin id)))(l:J2 a)(h:wpAny (model prog w) A (eval c env) (λo s₁=>wpAny (model prog w) A (eval a env) (λi d=>d.TypeIs o T/\wpAny (model prog w) A (getItem o i) Q E d) E s₁) E s):wpAny (model prog w) A (eval (.Subscript c a j) env) Q E s:=by
 refine Subscript_ (wpAny_mono h (λo s₁ f=>wpAny_mono f (λi d b=>?_) λ_ _ x=>x) λ_ _ x=>x);obtain⟨k,b⟩:=b;unfold subscriptTail;refine a_ ?_;rw[getitemInPython_of_ne k.not_modules];refine a_ (Nh k hl ?_);have fin:wpAny (model prog w) A (subscripted a false o i) (λr e=>wpAny (model prog w) A (letTemporaryGo c o r>>=λ_=>pure r) Q E e) E d:=by rw[l o i];exact wpAny_operating (wpAny_mono b (λr e g=>a_ (wpAny_letTemporaryGo (eH g))) λ_ _ x=>x)
 first|exact eH (a_ fin)|exact a_ (eH (a_ fin))|exact a_ fin
def yP(I:aN X d f H s)(g:dR H a y o):s.TypeIs (.ref a) "dict":=by
 rcases g with⟨c,k,e,_,_⟩|⟨c,k,b,e,_,_,_⟩
 ·obtain⟨_,_,h,_,dd⟩:=qR I.hok e;exact dd.typeIs
 ·obtain⟨_,_,i,_,dd⟩:=qQ I.hok e;exact dd.typeIs
def Kz(d ty:TE):TE:=λb H Q=>d b H λx e=>ty b e λy c=>∃a v,x=.ref a/\dR c a y (some v)/\Q v c
def LY(ty d:TE):TE:=λb H Q=>ty b H λy e=>d b e λx c=>∃a o,x=.ref a/\dR c a y o/\Q (.bl o.isSome) c
def FL(ty d:TE):TE:=λb H Q=>ty b H λy e=>d b e λx c=>∃a o,x=.ref a/\dR c a y o/\Q (.bl (!o.isSome)) c
section
variable{X:Cx}{o i e d:Expr}{f l j:Pos}{c ty m:TE}
def dG(r:X.A.units+1<cLine)(t:PE X o c)(hi:PE X i ty)(w:J2 i):PE X (.Subscript o i f) (Kz c ty):=by intro b s p H Q I h;refine Ay PySem.F.slot_dict_getitem.lookup w (cw (t b s p H _ I h) λu z k=>?_);obtain⟨x,B,I1,C,D⟩:=k;refine cw (hi b z p B _ I1 D) λiv L k=>?_;obtain⟨y,E,q,G,a,v,ex,g,J⟩:=k;subst ex;obtain rfl:u=Value.ref a:=C;exact⟨yP q g,Ck r q g G λM N K n=>⟨v,E,K,n,J⟩⟩
def zI(p:X.A.units+1<cLine)(hi:PE X i ty)(r:PE X o c):PC X .In i o (LY ty c):=by intro b s n H Q I h;refine cw (hi b s n H _ I h) λiv q k=>?_;obtain⟨y,t,I1,v,w⟩:=k;refine cw (r b q n t _ I1 w) λu G k=>?_;obtain⟨x,z,B,C,a,D,ex,g,E⟩:=k;subst ex;obtain rfl:u=Value.ref a:=C;exact Md p B g v λJ F=>⟨.bl D.isSome,z,F,rfl,E⟩
def pL(p:X.A.units+1<cLine)(hi:PE X i ty)(r:PE X o c):PC X .NotIn i o (FL ty c):=by intro b s n H Q I h;refine cw (hi b s n H _ I h) λiv q k=>?_;obtain⟨y,t,I1,v,w⟩:=k;refine cw (r b q n t _ I1 w) λu G k=>?_;obtain⟨x,z,B,C,a,D,ex,g,E⟩:=k;subst ex;obtain rfl:u=Value.ref a:=C;exact A7 p B g v λJ F=>⟨.bl (!D.isSome),z,F,rfl,E⟩
end
def E4(h:Heap)(a:sysModules<h.objs.size):dk P w H (h.push {cls:=.type "dict",data:=.dict #[]}) h.objs.size (.dK []):=⟨j1 _,to.mpr (mu (h_ a)),[],.nil,Heap.DictOf.new h⟩
def Iu:TE:=λ_ H Q=>∀p,H p=none->Q (.ref p) (aJ H p (.dK []))
section
variable{X:Cx}{c:Pos}
def kd:PE X (.Dict [] [] c) Iu:=λb s d H Q I h=>wpAny_Dict_empty ⟨.ref s.heap.objs.size,_,I.laid (a:=s.heap.objs.size) (o:=.dK []) (t':=s.toks) (λ_ _ q=>c_ _ q) (eN _) (E4 s.heap I.big),rfl,h _ (I.hok.fresh (eN _))⟩
end
structure M1(X:Cx)(o:Expr)(m:Str)(apos:Pos)(e:Expr)(cpos:Pos):Prop where
 base:attributeBase o m X.env (eval o X.env)=eval o X.env
 few:((backTo cpos (starEach [e] X.env)).all (λx=>!x.1)&&(backToKw cpos (keywordEach [] X.env)).all (λx=>x.1.isSome)&&decide (([e]:N8).length+([]:List Keyword).length+(if([]:List Keyword).isEmpty then 0 else 1)<30))=true
 line:(apos.endLine==cpos.line)=true
 trees:backTo cpos (starEach [e] X.env)=[(false,eval e X.env)]
structure M2(X:Cx)(o:Expr)(m:Str)(apos:Pos)(e f:Expr)(cpos:Pos):Prop where
 base:attributeBase o m X.env (eval o X.env)=eval o X.env
 few:((backTo cpos (starEach [e,f] X.env)).all (λx=>!x.1)&&(backToKw cpos (keywordEach [] X.env)).all (λx=>x.1.isSome)&&decide (([e,f]:N8).length+([]:List Keyword).length+(if([]:List Keyword).isEmpty then 0 else 1)<30))=true
 line:(apos.endLine==cpos.line)=true
 trees:backTo cpos (starEach [e,f] X.env)=[(false,eval e X.env),(false,eval f X.env)]
def LO(H:Hp)(a:Addr):Prop:=(∃b,Rd H a (.dK b))\/∃b,Rd H a (.dT b)
def z9(I:aN X f g H s)(d:LO H a):s.TypeIs (.ref a) "dict"/\(∀b,Value.ref a=.ref b->∃ob,s.heap.get? b=some ob/\ob.dict=none)/\(a==sysModules)=false:=by
 rcases d with⟨c,e⟩|⟨c,e⟩
 ·obtain⟨_,hd,h,_,dd⟩:=qR I.hok e;refine⟨dd.typeIs,λb q=>?_,hd⟩;cases q;obtain⟨ob,_,_,h1,h2,_⟩:=dd;exact⟨ob,h1,h2.2.1⟩
 ·obtain⟨_,hd,i,_,dd⟩:=qQ I.hok e;refine⟨dd.typeIs,λb q=>?_,hd⟩;cases q;obtain⟨ob,_,_,h1,h2,_⟩:=dd;exact⟨ob,h1,h2.2.1⟩
section
variable{X:Cx}{c:N3}{f:St}{H:Hp}{s:Shared}{a:Addr}{y d:V}{u r:Value}{o:Option V}{A:Around}{E:N2}
def JU(v:A.units+1<cLine)(I:aN X c f H s)(g:dR H a y o)(n:aY y u)(h:∀p t,aN X c f H t->aY (o.getD .non) p->Q p t):wpAny (model X.prog X.w) A (call (.builtin "dict.get") [.ref a,u]) Q E s:=by
 rcases g with⟨j,k,e,m,l⟩|⟨j,k,b,e,m,q,l⟩
 ·subst m;obtain⟨z,hd,B,i,dd⟩:=qR I.hok e;refine wr PySem.F.slot_dict_get dd.typeIs PySem.F.entry_dict_get (PySem.F.args_dict_get_2 _ _) (meets_dict_get (aW X.prog X.w) a (oX n) hd) ⟨_,dd.mapOf,h _ _ (I.tok _) ?_⟩;rw[l];exact(i.val k).getD rfl
 ·subst m;cases(show u=Value.ref b from n);obtain⟨z,hd,x,i,dd⟩:=qQ I.hok e;refine wr PySem.F.slot_dict_get dd.typeIs PySem.F.entry_dict_get (PySem.F.args_dict_get_2 _ _) (meetsH_dict_get (tupleKind (aW X.prog X.w)) a b hd) ⟨v_ v,k,x,nE I.hok q,dd,h _ _ (I.tok _) ?_⟩;rw[l];exact(i.val k).getD rfl
def JS(x:A.units+1<cLine)(I:aN X c f H s)(g:dR H a y o)(n:aY y u)(p:aY d r)(h:∀t v,aN X c f H v->aY (o.getD d) t->Q t v):wpAny (model X.prog X.w) A (call (.builtin "dict.get") [.ref a,u,r]) Q E s:=by
 rcases g with⟨j,k,e,m,l⟩|⟨j,k,b,e,m,q,l⟩
 ·subst m;obtain⟨z,hd,C,i,dd⟩:=qR I.hok e;refine wr PySem.F.slot_dict_get dd.typeIs PySem.F.entry_dict_get (PySem.F.args_dict_get_3 _ _ _) (meets_dict_get_default (aW X.prog X.w) a (oX n) hd r) ⟨_,dd.mapOf,h _ _ (I.tok _) ?_⟩;rw[l];exact(i.val k).getD p
 ·subst m;cases(show u=Value.ref b from n);obtain⟨z,hd,B,i,dd⟩:=qQ I.hok e;refine wr PySem.F.slot_dict_get dd.typeIs PySem.F.entry_dict_get (PySem.F.args_dict_get_3 _ _ _) (meetsH_dict_get_default (tupleKind (aW X.prog X.w)) a b hd r) ⟨v_ x,k,B,nE I.hok q,dd,h _ _ (I.tok _) ?_⟩;rw[l];exact(i.val k).getD p
end
def Iw(e ty:TE):TE:=λb H Q=>e b H λx c=>∃a,x=.ref a/\LO c a/\ty b c λy d=>∃o,dR d a y o/\Q (o.getD .non) d
def Iv(e ty f:TE):TE:=λb H Q=>e b H λx c=>∃a,x=.ref a/\LO c a/\ty b c λy g=>f b g λz d=>∃o,dR d a y o/\Q (o.getD z) d
def Iq(f ty:TE):TE:=λc H Q=>f c H λx d=>∃a,x=.ref a/\LO d a/\ty c d λy e=>∃b k v,e a=some (.dK b)/\y=kV k/\bw b k=some v/\Q v (aJ e a (.dK (dO b k)))
section
variable{X:Cx}{o e f:Expr}{i c:Pos}{j ty n:TE}
def xZ(r:X.A.units+1<cLine)(t:PE X o j)(v:PE X e ty)(m:M1 X o "get" i e c):PE X (.Call (.Attribute o "get" i) [e] [] c) (Iw j ty):=by intro b s p H Q I h;refine I_ m.base m.few m.line PySem.F.plainAttrs_dict PySem.F.slot_dict_get PySem.F.type_dict_get (cw (t b s p H _ I h) λu q k=>?_);obtain⟨x,w,I1,z,a,ex,d,B⟩:=k;subst ex;obtain rfl:u=Value.ref a:=z;obtain⟨C,D,_⟩:=z9 I1 d;refine⟨C,D,?_⟩;rw[m.trees];refine pa rfl (so (oa (cw (v b q p w _ I1 B) λiv M k=>?_)));obtain⟨y,E,G,J,N,g,K⟩:=k;refine rV ?_;exact JU r G g J λO P L l=>⟨_,E,L,l,K⟩
def xY(p:X.A.units+1<cLine)(r:PE X o j)(t:PE X e ty)(v:PE X f n)(m:M2 X o "get" i e f c):PE X (.Call (.Attribute o "get" i) [e,f] [] c) (Iv j ty n):=by
 intro b s k H Q I h;refine I_ m.base m.few m.line PySem.F.plainAttrs_dict PySem.F.slot_dict_get PySem.F.type_dict_get (cw (r b s k H _ I h) λu q w=>?_);obtain⟨x,B,I1,C,a,ex,d,D⟩:=w;subst ex;obtain rfl:u=Value.ref a:=C;obtain⟨E,G,_⟩:=z9 I1 d;refine⟨E,G,?_⟩;rw[m.trees];refine pa rfl (so (oa (cw (t b q k B _ I1 D) λiv J⟨y,K,L,M,N⟩=>oa (cw (v b J k K _ L N) λU V⟨z,O,P,R,W,g,S⟩=>rV ?_))))
 exact JS p P g M R λY Z T l=>⟨_,O,T,l,S⟩
def xX(r:PE X o j)(t:PE X e ty)(m:M1 X o "pop" i e c):PE X (.Call (.Attribute o "pop" i) [e] [] c) (Iq j ty):=by intro b s q H Q I h;refine I_ m.base m.few m.line PySem.F.plainAttrs_dict PySem.F.slot_dict_pop PySem.F.type_dict_pop (cw (r b s q H _ I h) λu w g=>?_);obtain⟨x,z,I1,A,a,ex,d,B⟩:=g;subst ex;obtain rfl:u=Value.ref a:=A;obtain⟨C,D,_⟩:=z9 I1 d;refine⟨C,D,?_⟩;rw[m.trees];refine pa rfl (so (oa (cw (t b w q z _ I1 B) λiv O g=>?_)));obtain⟨y,P,E,G,J,k,v,K,L,l,M⟩:=g;refine rV ?_;subst L;exact Ls E K G l (.inl rfl) λR S N p=>⟨v,_,N,p,M⟩
end
section
variable{X:Cx}{c:N3}{e:St}{H:Hp}{s:Shared}{a:Addr}{d:List (cu×V)}{A:Around}{E:N2}
end
section
variable{X:Cx}{c:N3}{d:St}{H:Hp}{s:Shared}{a:Addr}{y:V}{u:Value}{A:Around}{E:N2}
end
end L2
namespace Att
open PySem PySem.W PySem.Calls PyProof.Rows
def rC:∀(ns:Ob)(c:N5),WellAll P h c (ns.map WData.int)->IntsAre c ns:=by
 intro ns
 induction ns with|nil=>intro c w;rw[List.map_nil]at w;cases w;exact .nil|cons n ns d=>intro c w;rw[ku]at w;cases w with|cons a b=>cases a;exact .cons _ _ (d _ b)
def BG{l:OpenLaw}{n:Nat}(hn:l.most=some n){P:Params}{h:Heap}{args:List WData}{c:N5}(e:l.row.toRowW.claim.pre args=true)(g:WellAll P h c args):∃a j ns,c=[Value.ref a]/\args=[WData.list (ns.map WData.int)]/\h.get? a=some {cls:=.type "list",data:=.seq j.toArray}/\IntsAre j ns/\ns.length<=n:=by
 have i:WShape.hasAll [] args [.list .int]=true:=(pre_splitW e).1;have hc:l.pre.holds [] {args:=args}=true:=(pre_splitW e).2;obtain⟨d,r,rfl,h1,h2⟩:=hasAllW_cons i;obtain rfl:=hasAllW_nil h2;obtain⟨s,rfl,h3⟩:=hasW_list h1;obtain⟨ns,rfl⟩:=items_int h3;have b:ns.length<=n:=by
  unfold OpenLaw.pre at hc;have h4:(WTm.not (.lt (.lit (.int (n:Int))) (.len (.arg 0)))).holds [] {args:=[.list (ns.map .int)]}=true:=by have h4:=(holds_andW hc).1;rw[hn]at h4;exact h4
  have h5:=condW_of h4 (w_not (w_lt w_lit (w_len_list (w_arg rfl))));rw[b_]at h5;refine A_ λq=>?_;have k:(n:Int)<((ns.length:Nat):Int):=by lia
  first|(rw[il k]at h5;exact absurd h5 (by decide))|(simp at h5;lia)
 cases g with|cons m o=>cases o;cases m with|list p f=>exact⟨_,_,ns,rfl,rfl,p,rC ns _ f,b⟩
def BL(l:OpenLaw)(args:List WData):l.row.toRowW.claim.post args (.bool true) args=true:=postW_of (r:=l.row.toRowW) (X:=(true==true)) (show WShape.has [] (.bool true) .bool=true by first|rfl|decide|simp[WShape.has,WShape.arms,WShape.armsAll]) (show(WTm.eq .res (.lit (.bool true))).value [] {args:=args,res:=some (.bool true),after:=args}=some (.bool (true==true))from w_eq_bool (w_res rfl) w_lit) rfl
def za{l:OpenLaw}{n:Nat}{q:N6}{c:N7}{x:(Str->Option Value)->Heap->Prop}{y:World->Heap->Prop}{d:DefRec}(hn:l.most=some n)(p:d.params.defaults=[])(call:∀(w:World)(s₀ s₁:Shared)(mg s:N4)(h:Addr)(o:Obj)(pm cd e:Value)(a:Addr)(g:N5)(ns:Ob),Ground q c [] x w s₀ mg s s₁.heap->y w s₁.heap->s₁.heap.get? h=some o->o.data=.func (docDef d.name d.params d.body d.scope pm cd e)->s₁.heap.CodeRec cd d.name->mg d.name=some (.ref h)->s₁.heap.get? a=some {cls:=.type "list",data:=.seq g.toArray}->IntsAre g ns->ns.length<=n->s₁.gens=#[]->codeAny (model l.prog w) callerA (.call (.ref h) ⟨[.ref a],[]⟩) (λr m=>r=.ok (.ret (.bool true))/\OldK s₁.heap m.heap/\m.os=s₁.os/\AllBare m.gens) s₁):WalkO q c x y l.row.toRowW d [] (λf g=>PySem.call f g):=by intro w s₀ s₁ mg s G Y h o pm cd e D kV E hd t z u hg A B J i C F v H;obtain rfl:D=.none:=Dflts.none z p;obtain rfl:kV=.none:=Dflts.noKw z;obtain⟨a,g,ns,rfl,rfl,j,b,k⟩:=BG hn i v;refine enter_call (wh (call w s₀ s₁ mg s h o pm cd e a g ns G Y E (fd_plain hd) t u j b k hg) λr m I=>?_);obtain⟨rfl,h2,h3,h4⟩:=I;exact⟨.inl ⟨.bool true,.bool true,[],rfl,λ_=>rfl,.bool true,BL l _,λ_=>⟨List.Pairwise.nil,λ_ hm=>(nomatch hm)⟩⟩,h2,h3,h4⟩
section
variable{prog:N6}{w:World}{A:Around}{E:N2}{s:Shared}{K:Frag}
end
end Att
namespace L2
open PySem PySem.Spec PyProof.Rows
theorem vd:∀{a:N5}{ns:Ob},IntsAre a ns->be (ns.map V.int) a|_,_,.nil=>.nil|_,_,.cons n t h=>.cons ⟨t,rfl⟩ (vd h)
def xf(H:Hp):Prop:=∀b,H b=none\/∃o a,H b=some (.frz o (.lst a))
def Ey{P:N6}{w:World}{K:N1}{mg J:N4}{T:zm}{k:Nat}{L a:Addr}{fd:FuncData}{x:Str}{sp:Sp}{s₁:Shared}{l:N5}{ns:Ob}(X:K.In s₁.heap)(t:s₁.heap.Ns mainGlobals mg)(f:s₁.heap.Ns builtinsNs J)(M:∀x:Str,x≠"__name__"->J x=bootBuiltins x)(y:s₁.heap.NoLimit)(hg:s₁.gens=#[])(I:s₁.heap.get? a=some {cls:=.type "list",data:=.seq l.toArray})(hi:IntsAre l ns)(hl:ns.length<=sizeLine)(hr:eQ k callerA)(F:∀base:Heap,K.In base->base.Ns mainGlobals mg->aQ P w K mg base T k L fd [x] sp)(p:∀(s:Shared)(u:Value),BindsTo s fd ⟨[u],[]⟩ [(x,u)])(N:∀H:Hp,xf H->aX K H a (ns.map V.int)->sp [.ref a] H (λv _=>v=.bl true) λ_ _ _=>False)(Q:∀H e g,T [] H s₁ (λ_ _ _=>False) e g->False):codeAny (model P w) callerA (.call (.ref L) ⟨[.ref a],[]⟩) (λr g=>r=.ok (.ret (.bool true))/\OldK s₁.heap g.heap/\g.os=s₁.os/\AllBare g.gens) s₁:=by
 have U:=vd hi;have A:=hi.length;have j:∀H:Hp,xf H->aX K H a (ns.map V.int)->lr P w H s₁.heap->(∀b,H b≠none->b=a)->(H a≠none->K.lookup a=none)->codeAny (model P w) callerA (.call (.ref L) ⟨[.ref a],[]⟩) (λr g=>r=.ok (.ret (.bool true))/\OldK s₁.heap g.heap/\g.os=s₁.os/\AllBare g.gens) s₁:=by
  intro H Y hS hok Z hK;have c:∀{b:Addr}{o:Obj},s₁.heap.get? b=some o->H b=none->(wP s₁.heap H).get? b=some o:=λe n=>EN e n;have O:∀{b:Addr}{o:Obj}{B:Array DictEntry}{C:Nat},s₁.heap.get? b=some o->o.data=.dict B C->H b=none:=λ{b o B C}e d=>by cases q:H b with|none=>rfl|some u=>have R:b=a:=Z b (by rw[q];simp);subst R;rw[I]at e;cases e;have d':Data.seq l.toArray _=Data.dict B C:=d;cases d'
  have i:∀{b:Addr}{m:N4},s₁.heap.Ns b m->(wP s₁.heap H).Ns b m:=λ{b m}⟨o,B,C,e,d,r⟩=>⟨o,B,C,c e (O e d),d,r⟩;have D:K.In (wP s₁.heap H):=λb o e=>c (X b o e) (by cases q:H b with|none=>rfl|some u=>have R:b=a:=Z b (by rw[q];simp);subst R;rw[hK (by rw[q];simp)]at e;cases e)
  have hM:Lz K mg (wP s₁.heap H):=⟨D,i t,⟨J,i f,M⟩,let⟨mc,h1,h2⟩:=y;⟨mc,i h1,h2⟩⟩;have e0:Ax P w K mg (wP s₁.heap H) callerA [] s₁ H:=⟨rfl,hM,λb o e=>GF e,B_ (Cd _ _),trivial,λb f=>absurd (show b∈([]:Oa)from f) (by simp),hok,.of_eq hg⟩;refine wh ((F _ D (i t)).run callerA [] s₁ H ⟨[.ref a],[]⟩ [.ref a] [.ref a] _ _ hr e0 (p s₁ (.ref a)) (.cons rfl .nil) (N H Y hS)) λr g h=>?_;cases r with|error e=>exact(Q H e g h).elim|ok fl=>cases fl with|next=>exact False.elim h|brk=>exact False.elim h|cont=>exact False.elim h|ret u=>obtain⟨v,H',os,bare,un,E,r',q⟩:=h;have q':v=.bl true:=q;subst q';obtain rfl:u=Value.bool true:=r';refine⟨rfl,OldK.of_keep λb o e=>?_,os,bare⟩;cases q:H b with|none=>exact un.keep b o e q (by intro z;exact absurd (show b∈([]:Oa)from z) (by simp)) (by simp)|some u=>
     rcases Y b with z|⟨ob,xs,z⟩
     ·rw[q]at z;cases z
     ·have z2:=un.frzs b ob _ z;obtain⟨e1,_⟩:=hok b _ z;obtain⟨e2,_⟩:=E b _ z2;rw[e]at e1;cases e1;exact e2
 cases S:K.lookup a with|some o=>have e:=X a o S;rw[I]at e;cases e;refine j (λ_=>none) (λ_=>.inl rfl) (.inr ⟨_,l.toArray,_,S,rfl,rfl,rfl,by rw[hE,A];exact hl,by simpa using U⟩) (λb u z=>by have G:(none:Option HO)=some u:=z;cases G) (λb z=>absurd rfl z) λz=>absurd rfl z|none=>
  refine j (λb=>if b=a then some (.frz {cls:=.type "list",data:=.seq l.toArray} (.lst (ns.map V.int)))else none) (λb=>?_) (.inl (.inr ⟨{cls:=.type "list",data:=.seq l.toArray},gn rfl⟩)) (λb u z=>?_) (λb z=>?_) λ_=>S
  ·by_cases f:b=a
   ·exact .inr ⟨_,_,gn f⟩
   ·exact .inl (ge f)
  ·by_cases f:b=a
   ·have G:=(gn f).symm.trans z;cases G;subst f;exact⟨I,by rw[b_];exact hl,l,_,U,I⟩
   ·have G:=(ge f).symm.trans z;cases G
  ·by_cases f:b=a
   ·exact f
   ·exact absurd (ge f) z
end L2
namespace L2
open PySem PySem.Spec PyProof.Rows
abbrev KOf{K:N1}{h:Heap}(_:K.In h):N1:=K
def FF{l:PySem.W.OpenLaw}{n k:Nat}{q:N6}{i:N7}{I:(Str->Option Value)->Heap->Prop}{C:World->Heap->Prop}{d:DefRec}{K:Params->N1}{CX:World->zm}{sp:World->Sp}{x:Str}(hn:l.most=some n)(r:n<=sizeLine)(t:d.params.defaults=[])(J:eQ k callerA)(L:∀(w:World)(h:Heap),C w h->(K w.params).In h)(F:∀(w:World)(mg:N4)(p:Addr)(h:Heap),(K w.params).In h->h.Ns mainGlobals mg->mg d.name=some (.ref p)->∃fd:FuncData,(∀(s:Shared)(u:Value),BindsTo s fd ⟨[u],[]⟩ [(x,u)])/\∀base:Heap,(K w.params).In base->base.Ns mainGlobals mg->aQ l.prog w (K w.params) mg base (CX w) k p fd [x] (sp w))(y:∀(w:World)(H:Hp)(a:Addr)(ns:Ob),ns.length<=n->xf H->aX (K w.params) H a (ns.map V.int)->sp w [.ref a] H (λv _=>v=.bl true) λ_ _ _=>False)(z:∀(w:World)(H:Hp)(s:Shared)(e:Value)(A:Shared),CX w [] H s (λ_ _ _=>False) e A->False):PySem.W.WalkO q i I C l.row.toRowW d [] (λf D=>PySem.call f D):=by refine Att.za hn t λw s₀ s₁ mg S p o pm cd M a D ns G Y U hd N B m j c hg=>?_;have E:=L w _ Y;obtain⟨fd,O,P⟩:=F w mg p _ E G.T.g B;exact Ey E G.T.g G.T.b G.T.builtins G.T.nolimit hg m j (j_ c r) J P O (λH Q R=>y w H a ns c Q R) λH e A=>z w H s₁ e A
def CF{l:PySem.W.OpenLaw}{n k:Nat}{q:N6}{c:N7}{t:(Str->Option Value)->Heap->Prop}{p:World->Heap->Prop}{d:DefRec}{K:Params->N1}{CX:zm}{sp:N1->Sp}{x:Str}(hn:l.most=some n)(g:n<=sizeLine)(i:d.params.defaults=[])(y:eQ k callerA)(z:∀(w:World)(h:Heap),p w h->(K w.params).In h)(F:∀(w:World)(mg:N4)(r:Addr)(h:Heap),(K w.params).In h->h.Ns mainGlobals mg->mg d.name=some (.ref r)->∃fd:FuncData,(∀(s:Shared)(u:Value),BindsTo s fd ⟨[u],[]⟩ [(x,u)])/\∀base:Heap,(K w.params).In base->base.Ns mainGlobals mg->aQ l.prog w (K w.params) mg base CX k r fd [x] (sp (K w.params)))(j:∀(K:N1)(H:Hp)(a:Addr)(ns:Ob),ns.length<=n->xf H->aX K H a (ns.map V.int)->sp K [.ref a] H (λv _=>v=.bl true) λ_ _ _=>False)(m:∀(H:Hp)(s:Shared)(e:Value)(o:Shared),CX [] H s (λ_ _ _=>False) e o->False):PySem.W.WalkO q c t p l.row.toRowW d [] (λf A=>PySem.call f A):=FF (K:=K) (CX:=λ_=>CX) (sp:=λw=>sp (K w.params)) hn g i y z F (λw H a ns h1 h2 h3=>j (K w.params) H a ns h1 h2 h3) λ_ H s e o=>m H s e o
end L2
namespace L2
open PySem PySem.Spec PyProof.Rows
def pd(s:Stmt):Arguments:=match s with|.FunctionDef _ a _ _ _ _ _ _ _ _=>a|_=>{posonlyargs:=[],args:=[],vararg:=none,kwonlyargs:=[],kw_defaults:=[],kwarg:=none,defaults:=[]}
def gx(s:Stmt):List Stmt:=match s with|.FunctionDef _ _ b _ _ _ _ _ _ _=>b|_=>[]
def ai(s:Stmt):Scope:=match s with|.FunctionDef _ _ _ _ _ _ a _ _ _=>a|_=>{kind:=.function,names:=[],isGenerator:=false,isCoroutine:=false}
abbrev dB:zm:=λ_ _ _ _ _ _=>False
abbrev E0:XK:=λ_ _ _=>False
def bq:kT dB X E0:=λ_ _ _ _ _ _ _ h=>h.elim
structure xi(K:N1)(x qual:Str)(st:Stmt)(f:Addr)(fd:FuncData):Prop where
 ex:∃(oc:Value)(od:Option Addr)(kV doc pm:Value)(an:Option Addr)(cdv ct:Value)(osl:Array (Option Value)),fd=PySem.W.fnOf x qual (pd st) (gx st) (ai st) .none kV doc pm an cdv ct/\K.lookup f=some ⟨oc,od,.func fd,osl⟩/\PySem.W.codeIn K cdv qual=true
 kp:PySem.W.keepIn K (.ref f)=true
section
variable{P:N6}{w:World}{K:N1}{mg:N4}{base:Heap}
def xi.ok{x a:Str}{st:Stmt}{f:Addr}{fd:FuncData}{N g:N7}{k:Nat}{sp:Sp}(F:xi K x a st f fd)(S:av N g (ai st))(len:∀d H Q E,sp d H Q E->d.length=g.length)(e:∀(c:Value)(A:Around)(outer:List Env)(s:Shared)(H:Hp)(d:List V)(Q:VK)(E:XK),eQ k (A.deeper (envOfC a (ai st) s.heap.objs.size f c))->sp d H Q E->∃t,uA (qf dB P w K mg base N a (ai st) f c A outer s H E).nox (gx st) t/\t {nx:=λ_ j=>Q .non j,rt:=Q} (iP N d) H):aQ P w K mg base dB (k+1) f fd g sp:=by obtain⟨oc,p,kV,l,pm,r,c,ct,m,rfl,n,b⟩:=F.ex;refine HP n b S len λA outer s H d Q E o i=>?_;obtain⟨t,h,q⟩:=e c A outer s H d Q E o i;exact⟨t,h.nox,q⟩
def xi.binds{x a:Str}{st:Stmt}{f:Addr}{fd:FuncData}{e:N7}(F:xi K x a st f fd)(h:∀(kV c pm:Value)(g:Option Addr)(d ct:Value)(i:N5),i.length=e.length->bindArgs (PySem.W.fnOf x a (pd st) (gx st) (ai st) .none kV c pm g d ct) ⟨i,[]⟩=pure (e.zip i)):fu K fd e []:=by obtain⟨oc,k,kV,c,pm,g,d,ct,b,rfl,l,j⟩:=F.ex;exact .all (h kV c pm g d ct)
def Af{x a:Str}{st:Stmt}{f:Addr}{oc:Value}{i h:Option Addr}{g:Array (Option Value)}{kV e pm d ct:Value}(l:K.lookup f=some ⟨oc,i,.func (PySem.W.fnOf x a (pd st) (gx st) (ai st) .none kV e pm h d ct),g⟩)(c:PySem.W.codeIn K d a=true)(k:PySem.W.keepIn K (.ref f)=true):xi K x a st f (PySem.W.fnOf x a (pd st) (gx st) (ai st) .none kV e pm h d ct):=⟨⟨oc,i,kV,e,pm,h,d,ct,g,rfl,l,c⟩,k⟩
end
def cz(a:eQ k A):A.units+1<cLine:=q_ (Nat.add_le_add_left (by decide:1<=64) _) a.units
section
variable{X:Cx}
def Y(i:Nat)(c:X.N[i]?=some x:=by rfl)(d:LL X.env.scope x:=by first|exact Or.inl rfl|exact Or.inr (Or.inl rfl)|exact Or.inr (Or.inr rfl))(hd:(x==("__debug__":Str))=false:=by decide)(a:(x==("__classdict__":Str))=false:=by decide):PE X (.Name x e) (Ik i):=Ja c d hd a
end
def bX{A B:Prop}(h:B):if false=true then A else B:=by rw[ge hA];exact h
def bD{A B:Prop}(h:A):if true=true then A else B:=by rw[gn rfl];exact h
def am(H a:Hp):Prop:=∀b o,H b=some o->a b=some o
def am.refl(H:Hp):am H H:=λ_ _ h=>h
def am.trans(a:am H d)(b:am d e):am H e:=λc o h=>b c o (a c o h)
def am.free(e:am H a)(h:a l=Option.none):H l=Option.none:=by cases q:H l with|none=>rfl|some o=>rw[e l o q]at h;cases h
def am.seq{K:N1}{H c:Hp}{a:Addr}{d:List V}(e:am H c)(h:aX K H a d):aX K c a d:=by
 rcases h with(h|⟨o,h⟩)|h
 ·exact .inl (.inl (e _ _ h))
 ·exact .inl (.inr ⟨o,e _ _ h⟩)
 ·exact .inr h
section
variable{a:Type}[DecidableEq a]
def vN{p:a×V}{r:List (a×V)}{k:a}(e:p.1=k):dO (p::r) k=dO r k:=by unfold dO;rw[Nb,ge (by simp[e])]
def vO{p:a×V}{r:List (a×V)}{k:a}(e:¬p.1=k):dO (p::r) k=p::dO r k:=by unfold dO;rw[Nb,gn (by simp[e])]
end
end L2
set_option maxHeartbeats 4000000
namespace L2
open PySem PySem.Spec PyProof.Rows
section
variable{prog:N6}{w:World}{A:Around}{R:Result->Shared->Prop}{s:Shared}
def kf(h:wpAny M A t Q (λ_ _=>False) s)(k:∀a s,Q a s->c a s):wpAny M A t c E s:=wpAny_mono h k λ_ _ z=>z.elim
def yS(J:Nat->Shared->Prop)(l:∀n s,J n s->wpAny (model prog w) A (pyNext B) (λr s₁=>match r with|none=>R (.ok .next) s₁|some v=>wpAny (model prog w) A (letOwnedTupleGo a B v) (λ_ d=>wpAny (model prog w) A (assign a env v) (λ_ e=>wpAny (model prog w) A (forIn k true λc r=>if r=true then do let ok<-isTrue c env (eval c env);pure (ForInStep.yield ok)else pure (ForInStep.yield r)) (λok b=>if ok=true then wpAny (model prog w) A (eval o env) (λx f=>wpAny (model prog w) A (call (.builtin "list.append") [p,x]) (λ_ g=>∃m,m<n/\J m g) (λ_ _=>False) f) (λ_ _=>False) b else∃m,m<n/\J m b) (λ_ _=>False) e) (λ_ _=>False) d) (λ_ _=>False) s₁) (λ_ _=>False) s)(n:Nat)(h:J n s):codeAny (model prog w) A (.compLoop (.ListComp o [⟨a,q,k,0⟩] scope C) 0 B p env) R s:=by refine codeAny_loop rfl J (λn s D=>?_) n h;show wpAny _ A ((compTurn (.ListComp o [⟨a,q,k,0⟩] scope C) 0 B p env).onRaise (λx=>do noteFrame x env;theTreesLotGoes x)) _ _ s;refine wpAny_noted ?_;rw[compTurn_list];refine a_ (wpAny_standAt (a_ (kf (l n s D) (λr s₁ i=>?_))));cases r with|none=>exact eH i|some v=>refine a_ (kf i λ_ d t=>a_ (kf t λ_ e u=>a_ (kf u λok b j=>?_)));cases ok with|false=>exact eH ⟨rfl,j⟩|true=>exact a_ (a_ (kf j λx f y=>a_ (kf y λ_ g z=>eH (eH ⟨rfl,z⟩))))
end
theorem lc{f:Str->NameKind->NameKind}:∀(l:List (Str×NameKind))(x:Str),(l.map λp=>(p.1,f p.1 p.2)).lookup x=(l.lookup x).map (f x)|[],_=>rfl|(n,k)::r,x=>by rw[ku,M9,M9];cases a:x==n with
 |true=>
   have e:x=n:=by simpa using a
   subst e;rfl|false=>exact lc r x
def lN(env:Env)(n:Str)(k:NameKind):NameKind:=if(k==.free&&env.scope.kind==.function&&env.kindOf n==some .cell)=true then .cell else k
def iV(scope:Scope)(env:Env)(x:Str):(relabel scope env).names.lookup x=(scope.names.lookup x).map (lN env x):=by
 rw[<-lc];unfold relabel
 congr 1
 show List.map _ scope.names=List.map _ scope.names
 congr 1
 funext p
 obtain⟨n,k⟩:=p;show(if(k==NameKind.free&&env.scope.kind==.function&&env.kindOf n==some .cell)=true then(n,NameKind.cell)else(n,k))=(n,lN env n k);unfold lN
 split<;>rfl
theorem nK{env:Env}{f:Str×NameKind->List (Str×Addr)->Sem (ForInStep (List (Str×Addr)))}(d:∀n c r,cellOf env n=pure c->f (n,.free) r=pure (.yield ((n,c)::r)))(g:∀n k r,k≠.free->f (n,k) r=pure (.yield r)):∀(l:List (Str×NameKind))(cs:List (Str×Addr)),(∀y∈l,y.2=.free->∃c,env.cells.lookup y.1=some c)->∃cl:List (Str×Addr),forIn l cs f=pure cl/\(∀x c,cl.lookup x=some c->env.cells.lookup x=some c\/cs.lookup x=some c)/\(∀x,(∃c,cs.lookup x=some c)\/(x,NameKind.free)∈l->∃c,cl.lookup x=some c)
 |[],cs,_=>⟨cs,rfl,λ_ _ h=>.inr h,λx h=>h.elim id nofun⟩|(n,k)::r,cs,h=>by
  by_cases o:k=.free
  ·subst o;obtain⟨c,hc⟩:=h (n,.free) hF rfl;obtain⟨cl,h1,h2,h3⟩:=nK d g r ((n,c)::cs) λy p=>h y (g_ _ p);refine⟨cl,?_,λx i a=>?_,λx a=>h3 x ?_⟩
   ·rw[Nm,d n c cs (by unfold cellOf;rw[hc])];exact h1
   ·rcases h2 x i a with z|z
    ·exact .inl z
    ·rw[M9]at z;cases b:x==n with|true=>
      rw[b]at z;have j:x=n:=by simpa using b
      have m:c=i:=by simpa using z
      subst j;subst m;exact .inl hc|false=>rw[b]at z;exact .inr z
   ·rcases a with⟨i,a⟩|a
    ·refine .inl ?_;rw[M9];cases b:x==n with|true=>exact⟨c,rfl⟩|false=>exact⟨i,a⟩
    ·rcases ot.mp a with e|e
     ·injection e with j m;subst j;exact .inl ⟨c,by simp⟩
     ·exact .inr e
  ·obtain⟨cl,h1,h2,h3⟩:=nK d g r cs λy p=>h y (g_ _ p);refine⟨cl,?_,h2,λx a=>h3 x ?_⟩
   ·rw[Nm,g n k cs o];exact h1
   ·rcases a with a|a
    ·exact .inl a
    ·rcases ot.mp a with e|e
     ·injection e with j m;exact absurd m.symm o
     ·exact .inr e
def u0{env:Env}{scope:Scope}(h:∀y∈scope.names,y.2=.free->∃c,env.cells.lookup y.1=some c):∃cl:List (Str×Addr),closureFor scope env=pure cl/\(∀x c,cl.lookup x=some c->env.cells.lookup x=some c)/\(∀x,(x,NameKind.free)∈scope.names->∃c,cl.lookup x=some c):=by
 simp only[closureFor];obtain⟨cl,h1,h2,h3⟩:=nK (env:=env) (f:=λ(x:Str×NameKind)(r:List (Str×Addr))=>match x with|(b,kind)=>if(kind==NameKind.free)=true then(do let a<-cellOf env b;pure (ForInStep.yield ((b,a)::r)))else pure (ForInStep.yield r)) (λn c r e=>by show(if(NameKind.free==NameKind.free)=true then(do let a<-cellOf env n;pure (ForInStep.yield ((n,a)::r)))else pure (ForInStep.yield r):Sem _)=_;rw[gn (by decide),e];rfl) (λn k r e=>by show(if(k==NameKind.free)=true then(do let a<-cellOf env n;pure (ForInStep.yield ((n,a)::r)))else pure (ForInStep.yield r):Sem _)=_;rw[ge (by simpa using e)]) scope.names [] h
 refine⟨cl,?_,λx c e=>(h2 x c e).elim id λz=>by simp at z,λx d=>h3 x (.inr d)⟩;rw[h1];rfl
def Cx.comp(X:Cx)(scope:Scope)(a:N7)(cl:List (Str×Addr))(C:Addr)(s₀:Shared)(H₀:Hp)(ex:Oa):Cx:={prog:=X.prog,w:=X.w,K:=X.K,mg:=X.mg,base:=X.base,A:=X.A,N:=a,s₀:=s₀,H₀:=H₀,env:=compEnvC scope cl C X.env,outer:=X.stack,stack:=X.stack,ex:=ex,fn:=λ_=>false,calm:=X.calm,pn:=X.pn,xe:=λ_ _=>False}
def io(ds:N_)(k:Nat)(a:St):St:=ds.foldl (λa i=>a.set i none) a++List.replicate k none
def nJ(ds:N_):∀a:St,(ds.foldl (λa i=>a.set i none) a).length=a.length:=by induction ds with|nil=>intro a;rfl|cons d r b=>intro a;rw[th,b];simp
def Ah(ds:N_):∀(a:St)(i:Nat)(v:V),(ds.foldl (λa i=>a.set i none) a)[i]?=some (some v)->a[i]?=some (some v)/\i∉ds:=by induction ds with|nil=>intro a i v h;exact⟨h,by simp⟩|cons d r b=>
  intro a i v h;rw[th]at h;obtain⟨h1,h2⟩:=b _ i v h
  by_cases e:d=i
  ·subst e
   by_cases hl:d<a.length
   ·rw[w1 hl]at h1;cases h1
   ·rw[C1.mpr (by rw[r3];lia)]at h1;cases h1
  ·rw[ol e]at h1;exact⟨h1,λz=>(ot.mp z).elim (λq=>e q.symm) h2⟩
def yG(h:(io ds k a)[i]?=some (some v)):a[i]?=some (some v)/\i∉ds/\i<a.length:=by
 unfold io at h
 by_cases hl:i<a.length
 ·rw[pu (by rw[nJ];exact hl)]at h;obtain⟨h1,h2⟩:=Ah ds a i v h;exact⟨h1,h2,hl⟩
 ·rw[t0 (by rw[nJ];lia)]at h;have:=d_.mp h;obtain⟨h1,h2⟩:=this;rw[List.getElem_replicate]at h2;cases h2
def Hu(X:Cx)(d:N8)(t:TT):Prop:=∀(a:N3)(s:Shared)(b:St)(H:Hp)(Q:Bool->Hp->Prop),aN X a b H s->t b H Q->wpAny (model X.prog X.w) X.A (forIn d true λc r=>if r=true then do let ok<-isTrue c X.env (eval c X.env);pure (ForInStep.yield ok)else pure (ForInStep.yield r)) (TP X a b Q) X.xe s
def Ko:TT:=λ_ H Q=>Q true H
def cF:Hu X [] Ko:=λ_ _ _ H _ I h=>wpAny_tests_nil ⟨H,I,h⟩
def oG(h:PT X c t):Hu X [c] t:=λa s b H Q I q=>wpAny_tests_one (h a s b H Q I q)
def GK(g:TG)(c:N_):Prop:=∀x b H Q,g x b H Q->g x b H λa d=>Q a d/\a.length=b.length/\∀i,i∉c->a[i]?=b[i]?
def cb(j:Nat):GK (ld j) [j]:=λx a H Q h=>by refine⟨h,by simp,λi hi=>?_⟩;rw[ol (λe=>hi (by simp[e]))]
def Ad(K:N1)(i j:Nat):GK (JE K 2 (ET (ld i) (ET (ld j) Ln))) [i,j]:=λx k H Q h=>by obtain⟨a,b,e,c,hl,v,r,d,u,r2,f,g,q⟩:=h;refine⟨a,b,e,c,hl,v,r,d,u,r2,f,g,q,by simp,λn hn=>?_⟩;have h1:n≠i:=λz=>hn (by simp[z]);have h2:n≠j:=λz=>hn (by simp[z]);rw[ol (mu h2),ol (mu h1)]
def sj(o:TI)(g:TG)(ds:N_)(k:Nat)(tc:TT)(te:TE):TE:=λf H Q=>o f H λJ h=>∀D,h D=none->∃W:Nat->Nat->List V->Hp->Prop,(∃m,W 0 m [] (aJ h D (.lst [])))/\∀i m a c,W i m a c->(J.stop i c/\Q (.ref D) c)\/(J.go i c/\∀x j,J.yld i c x j->g x (io ds k f) j λd p=>tc d p λb l=>if b=true then te d l λy n=>n D=some (.lst a)/\a.length<sizeLine/\∃e,e<m/\W (i+1) e (a++[y]) (aJ n D (.lst (a++[y])))else∃e,e<m/\W (i+1) e a l)
section
variable{X:Cx}
def Ff(I:aN X t σ H s)(f:∀b∈fp,u9 X t H b)(fo:∀b∈fp,∃o,s.heap.get? b=some o)(E:scope.kind=.function)(F:∀y∈scope.names,y.2≠.cell)(G:∀y∈scope.names,y.2=.free->X.env.scope.names.lookup y.1=some .cell\/X.env.scope.names.lookup y.1=some .free)(g:∀x c,cl.lookup x=some c->X.env.cells.lookup x=some c)(D:∀x,(x,NameKind.free)∈scope.names->∃c,cl.lookup x=some c)(hN:W=X.N++L)(hk:L.length=k)(M:∀i x,X.N[i]?=some x->scope.names.lookup x=some .local->i∈ds)(P:s.heap.objs.size<C)(keep:∀b o,s.heap.get? b=some o->j.get? b=some o)(Z:j.Ns C m)(hD:j.get? s.heap.objs.size=some {cls:=.type "list",data:=.seq ([]:N5).toArray 0}):aN (X.comp scope W cl C s H fp) t (io ds k σ) (aJ H s.heap.objs.size (.lst [])) {s with heap:=j,toks:=tk}:=by
 have fresh:H s.heap.objs.size=none:=I.hok.fresh (eN _);have O:lr X.prog X.w (aJ H s.heap.objs.size (.lst [])) j:=I.hok.laid keep (eN _) ⟨j1 _,[],0,.nil,hD⟩;have J:∀b∈fp,b<s.heap.objs.size:=λb A=>let⟨_,e⟩:=fo b A;gV e;have K:∀b,b∈jM X.stack->∀p∈X.pn++t,p.1≠b:=λb A p T e=>by
  obtain⟨_,_,n1,n2,_⟩:=I.pin p T;rcases ot.mp (I.stkSub b A)with z|z
  ·exact n1 (e.trans z)
  ·exact n2 (e▸z)
 have B:∀x c,cl.lookup x=some c->c<s.heap.objs.size:=λx c e=>by obtain⟨v,z⟩:=I.cell x c (g x c e);exact z.lt
 have a:∀x,(relabel scope X.env).names.lookup x=some .cell\/(relabel scope X.env).names.lookup x=some .free->scope.names.lookup x=some .free:=λx h=>by rw[iV]at h;cases e:scope.names.lookup x with|none=>rw[e]at h;simp at h|some q=>
   rw[e]at h;have hm:=mem_of_lookup e;have nc:q≠.cell:=F _ hm;simp only[E1,MS]at h;unfold lN at h
   split at h
   ·rename_i hc;have:(q==NameKind.free)=true:=by cases hq:q==NameKind.free with|true=>rfl|false=>rw[hq]at hc;simp at hc
    have:q=.free:=by simpa using this
    rw[this]
   ·rcases h with h|h
    ·exact absurd h nc
    ·rw[h]
 refine⟨⟨I.ok.mod,?_,I.ok.glob,I.ok.blt,rm P,?_,?_,?_,I.ok.hd,I.ok.frames,.inl rfl,?_,I.bs,j_ I.ok.bsz I.sz,?_,?_,I.stack,I.stkFree⟩,rfl,I.bare,Un.laid keep (eN _) fresh,⟨m,Z,?_⟩,?_,?_,?_,?_,O,?_⟩
 ·exact E
 ·intro x y c Y hy;exact I.ok.inj x y c (g x c Y) (g y c hy)
 ·intro x Y;exact D x (mem_of_lookup (a x Y))
 ·intro x c hf;exact absurd hf (by simp[Cx.comp])
 ·intro b A;refine⟨h_ (t8 (J b A) P),λx c e z=>?_⟩;exact(f b A).2.2.2.2.1 x c (g x c e) z
 ·intro b o e A;rcases(f b A).2.2.2.1 with z|z
  ·exact I.ok.noex b o e z
  ·exact absurd (kw (gV e) (j_ I.ok.bsz z)) (nn _)
 ·intro b A hs;rcases ot.mp (I.stkSub b hs)with z|z
  ·exact(f b A).2.1 z
  ·exact(f b A).2.2.1 z
 ·intro i x v U e2 vis;obtain⟨g1,g2,g3⟩:=yG e2;have Q:X.N[i]?=some x:=by have U:W[i]?=some x:=U;rw[hN,pu (by rw[<-I.len];exact g3)]at U;exact U
  have hv:scope.names.lookup x=some .free:=by
   rcases vis with z|z|z
   ·exfalso;have z:(relabel scope X.env).names.lookup x=some .local:=z;rw[iV]at z;cases e:scope.names.lookup x with|none=>rw[e]at z;simp at z|some q=>
     rw[e]at z;simp only[E1,MS]at z;unfold lN at z
     split at z
     ·cases z
     ·subst z;exact g2 (M i x Q e)
   ·exact a x (.inl z)
   ·exact a x (.inr z)
  have hm:=mem_of_lookup hv;have hX:=G _ hm rfl;obtain⟨mX,_,hl⟩:=I.loc;have R:LL X.env.scope x:=by
   rcases hX with z|z
   ·exact .inr (.inl z)
   ·exact .inr (.inr z)
  obtain⟨u,r,l⟩:=hl i x v Q g1 R;refine⟨u,r,.inr ⟨?_,?_⟩⟩
  ·show(relabel scope X.env).names.lookup x=some .cell\/(relabel scope X.env).names.lookup x=some .free;rw[iV,hv];show some (lN X.env x .free)=some .cell\/some (lN X.env x .free)=some .free;unfold lN
   split
   ·exact .inl rfl
   ·exact .inr rfl
  ·obtain⟨c,hc⟩:=D x hm;have aa:=g x c hc;refine⟨c,hc,?_⟩;rcases l with⟨V,_⟩|⟨_,c',S,o,ho,hd⟩
   ·exfalso;have V:X.env.scope.names.lookup x=some .local:=V;rcases hX with z|z
    ·rw[V]at z;cases z
    ·rw[V]at z;cases z
   ·rw[aa]at S;cases S;exact⟨o,keep c o ho,hd⟩
 ·intro x c e;obtain⟨v,o,ho,hd⟩:=I.cell x c (g x c e);exact⟨v,o,keep c o ho,hd⟩
 ·show aJ H s.heap.objs.size (.lst []) C=none;rw[ao (lm P)];exact I.hok.fresh (rm P)
 ·intro x c e;rw[ao (h_ (B x c e))];exact I.freeC x c (g x c e)
 ·intro p T;obtain⟨e,n,n1,n2,d⟩:=I.pin p T;have lt:=gV e;refine⟨keep _ _ e,?_,h_ (t8 lt P),λz=>K p.1 z p T rfl,d⟩;rw[ao (h_ lt)];exact n
 ·show(io ds k σ).length=W.length;unfold io;rw[ga,nJ,I.len,hN,ga,Mt,hk]
def Fe(I:aN X a m H s)(f:∀b∈fp,u9 X a H b)(g:aN (X.comp scope x cl C s H fp) a p i j)(r:s.heap.objs.size<C)(l:Heap.SameBut C j.heap h'):aN X a m i {j with heap:=h'}:=by
 have u:=g.base;have d:i C=none:=g.free;have ne:∀b o,s.heap.get? b=some o->b≠C:=λb o e=>h_ (t8 (gV e) r);have t:Un (jM X.stack) fp H i s.heap h':=by
  refine⟨λb o e n h1 h2=>?_,λb o e n h1 h2=>?_,u.free,λb o e h2=>?_,u.tups,u.frzs,u.tbls⟩
  ·exact(l.2 b (ne b o e)).trans (u.keep b o e n h1 h2)
  ·obtain⟨sl,q⟩:=u.slot b o e n h1 h2;exact⟨sl,(l.2 b (ne b o e)).trans q⟩
  ·obtain⟨v,q⟩:=u.there b o e h2;exact⟨v,(l.2 b (ne b o e)).trans q⟩
 have h:lr X.prog X.w i h':=λb ob e=>by
  refine(g.hok b ob e).stay (λc y hc q=>(l.2 c ?_).trans q) (λ_ q=>q) λ_ _ q=>q;rintro rfl;rcases hc with rfl|hc
  ·rw[d]at e;cases e
  ·rw[d]at hc;cases hc
 exact I.call' (s':={j with heap:=h'}) g.os t h g.bare λb k=>⟨(f b k).2.2.2.1,(f b k).2.1,(f b k).2.2.2.2.1,(f b k).2.2.2.2.2⟩
def aN.block_gone(I:aN X a d H s)(hn:H C=none)(f:C≠X.env.locals)(h1:X.s₀.heap.objs.size<=C)(h2:∀x c,X.env.cells.lookup x=some c->c≠C)(h3:∀p∈X.pn++a,p.1≠C)(g:Heap.SameBut C s.heap h'):aN X a d H {s with heap:=h'}:=I.turned (t':=s.toks) (λb o h e=>(g.2 b h).trans e) hn f (.inr h1) h2 h3
def vQ(N':N7)(ds:N_)(k:Nat){a:N3}{s:Shared}{R:St}{H:Hp}{Q:VK}{use:Option (Value->Sem Unit)}{QV:N2}(hc:X.calm=true)(hi:PI X tg l wi)(G:∀cl C s₀ H₀ ex,PG (X.comp scope N' cl C s₀ H₀ ex) tg g/\Hu (X.comp scope N' cl C s₀ H₀ ex) S tc/\PE (X.comp scope N' cl C s₀ H₀ ex) a6 te)(hg:GK g js)(hj:∀R:St,R.length=X.N.length->∀j∈js,∀v,(io ds k R)[j]?≠some (some v))(L:scope.kind=.function)(Z:∀y∈scope.names,y.2≠.cell)(ad:∀y∈scope.names,y.2=.local->scope.names.lookup y.1=some .local)(aa:∀y∈scope.names,y.2=.free->X.env.scope.names.lookup y.1=some .cell\/X.env.scope.names.lookup y.1=some .free)(hN:N'=X.N++a7)(hk:a7.length=k)(a8:∀i x,X.N[i]?=some x->scope.names.lookup x=some .local->i∈ds)(hs:∀x,foldedSetIterable l X.env x=pure x)(I:aN X a R H s)(h:sj wi g ds k tc te R H Q)(fin:∀(D C:Addr)(H':Hp)(s':Shared)(m:N4),aN X a R H' s'->Q (.ref D) H'->s'.heap.Ns C m->H' C=none->C≠X.env.locals->X.s₀.heap.objs.size<=C->(∀x c,X.env.cells.lookup x=some c->c≠C)->(∀p∈X.pn++a,p.1≠C)->compPost (model X.prog X.w) X.A X.xe use QV (.ref D) C (.ok .next) s'):wpAny (model X.prog X.w) X.A (comprehension (.ListComp a6 [⟨tg,l,S,0⟩] scope ba) scope X.env (firstIterPos [⟨tg,l,S,0⟩] ba) (newList []) (firstAsync [⟨tg,l,S,0⟩]) (firstIter [⟨tg,l,S,0⟩] X.env) use) QV X.xe s:=by
 have V:∀y∈scope.names,y.2=.free->∃c,X.env.cells.lookup y.1=some c:=λy hy e=>I.ok.has y.1 (aa y hy e);obtain⟨cl,ax,bb,bc⟩:=u0 V;refine wpAny_comprehension_free (use:=use) rfl hs ax L ad (cw (hi a s R H _ I h) λv s1 h1=>cw h1 λc2 t h2=>?_);obtain⟨it,fp,tn,J,H2,e,Y,T,bi,f2,q⟩:=h2;subst e;have c3:=Y;obtain⟨W,⟨m0,w0⟩,bl⟩:=q t.heap.objs.size (Y.hok.fresh (eN _));refine np (wpAny_newFunctionEnv Z (by intro y hy;simp at hy) (λE B hsb₁=>?_) L);dsimp only at B hsb₁⊢;generalize ay:t.heap.push {cls:=.type "list",dict:=none,data:=.seq ([]:N5).toArray}=G2 at B hsb₁⊢;have hC:t.heap.objs.size<G2.objs.size:=by rw[<-ay,ni];exact rk _
 have keep:∀b o,t.heap.get? b=some o->E.get? b=some o:=λb o e=>hsb₁.extBut b o (h_ (t8 (gV e) hC)) (c_ _ (ay▸c_ _ e))
 have hD:E.get? t.heap.objs.size=some {cls:=.type "list",data:=.seq ([]:N5).toArray 0}:=hsb₁.extBut _ _ (h_ hC) (c_ _ (ay▸fy _ rfl));have fo:∀b∈fp,∃o,t.heap.get? b=some o:=λb G=>let⟨o,e,_⟩:=T.obj _ _ bi b G;⟨o,e⟩;obtain⟨bn,bt,bx⟩:=G cl G2.objs.size t H2 fp;generalize f:X.comp scope N' cl G2.objs.size t H2 fp=M at bn bt bx;have xp:M.prog=X.prog:=by rw[<-f];rfl
 have xw:M.w=X.w:=by rw[<-f];rfl
 have xK:M.K=X.K:=by rw[<-f];rfl
 have xA:M.A=X.A:=by rw[<-f];rfl
 have xe:M.xe=λ_ _=>False:=by rw[<-f];rfl
 have F:M.env=compEnvC scope cl G2.objs.size X.env:=by rw[<-f];rfl
 have bz:M.calm=true:=by rw[<-f];exact hc
 have iP:aN M a (io ds k R) (aJ H2 t.heap.objs.size (.lst [])) {t with heap:=E,toks:=t.toks+([]:List (Str×Value)).length}:=by rw[<-f];exact Ff Y f2 fo L Z aa bb bc hN hk a8 hC keep B hD
 have bS:tn 0 E:=T.keep _ _ _ bi λb _ o e=>keep b o e;have ci:∀b∈fp,aJ H2 t.heap.objs.size (.lst []) b=none:=λb G=>by obtain⟨o,e⟩:=fo b G;rw[ao (h_ (gV e))];exact(f2 b G).1
 have U:∀{H':Hp},(∀b∈fp,H' b=none)->∀b∈fp,u9 M a H' b:=λhn b G=>by
  obtain⟨f0,f1,f3,f4,f5,f6⟩:=f2 b G;obtain⟨o,e⟩:=fo b G;refine⟨hn b G,?_,?_,?_,?_,?_⟩
  ·rw[F];exact h_ (t8 (gV e) hC)
  ·intro z;have z:b∈jM X.stack:=by rw[<-f]at z;exact z
   rcases ot.mp (Y.stkSub b z)with y|y
   ·exact f1 y
   ·exact f3 y
  ·rw[<-f];exact .inl G
  ·intro x c ec;rw[F]at ec;exact f5 x c (bb x c ec)
  ·intro p hp;rw[<-f]at hp;exact f6 p hp
 have as:codeAny (model X.prog X.w) X.A (.compLoop (.ListComp a6 [⟨tg,l,S,0⟩] scope ba) 0 (.ref it) (.ref t.heap.objs.size) (compEnvC scope cl G2.objs.size X.env)) (compPost (model X.prog X.w) X.A X.xe use QV (.ref t.heap.objs.size) G2.objs.size) {t with heap:=E,toks:=t.toks+([]:List (Str×Value)).length}:=by
  refine yS (λn s'=>∃i O H',aN M a (io ds k R) H' s'/\tn i s'.heap/\(∀b∈fp,H' b=none)/\W i n O H') ?_ m0 ⟨0,[],_,iP,bS,ci,w0⟩;rintro n s3⟨i,O,H3,I3,b0,b8,w3⟩;rcases bl i n O H3 w3 with⟨stop,qn⟩|⟨go,step⟩
  ·have td:=T.done M xp xw xK bz i a s3 _ H3 (λ_ _=>False) I3 (U b8) b0 stop;rw[xA]at td;refine cw td λr s4 P=>?_;obtain⟨hr,I4⟩:=P;subst hr;have al:=I4;rw[<-f]at al;obtain⟨m',cp,_⟩:=al.loc;refine fin t.heap.objs.size G2.objs.size H3 s4 m' (Fe (h':=s4.heap) Y f2 al hC (.refl ..)) qn cp al.free (lm (t8 Y.lt hC)) (rm (q_ Y.sz hC)) (λx c e z=>?_) λp hp z=>?_
   ·obtain⟨v,q⟩:=Y.cell x c e;exact absurd (t8 q.lt hC) (by rw[z];exact nn _)
   ·exact absurd (t8 (gV (Y.pin p hp).1) hC) (by rw[z];exact nn _)
  ·have ti:=T.item M xp xw xK bz i a s3 _ H3 (λ_ _=>False) I3 (U b8) b0 go;rw[xA]at ti;refine cw ti λr s4 P=>?_;obtain⟨u,hr,h4⟩:=P;subst hr;refine cw h4 λ_ s5 P=>?_;obtain⟨x,H5,I5,r5,y5,a0,cA⟩:=P;have c0:=I5.pinned (U cA) (T.obj _ _ a0);have pg:=bn _ s5 _ H5 x u _ c0 r5 (hg x _ H5 _ (step x H5 y5));rw[xp,xw,xA,F,xe]at pg;refine cw pg λ_ s6 P=>?_;obtain⟨an,H6,I6,⟨q6,b9,a5⟩⟩:=P;have again:∀{H7:Hp}{s7:Shared},aN M (a++tH fp s5.heap) an H7 s7->aN M a (io ds k R) H7 s7/\tn (i+1) s7.heap/\∀b∈fp,H7 b=none:=λ{H7 s7}I7=>by
    refine⟨I7.unpinned.weak b9.symm λj v e=>?_,T.keep _ _ _ a0 λb G o e=>(I7.pin (b,o) (mo _ (mo _ (kO G e)))).1,λb G=>?_⟩
    ·rw[a5 j λz=>hj R I.len j z v e];exact e
    ·obtain⟨o,e,d⟩:=T.obj _ _ a0 b G;exact(I7.pin (b,o) (mo _ (mo _ (kO G e)))).2.1
   have pt:=bt _ s6 an H6 _ I6 q6;rw[xp,xw,xA,F,xe]at pt;refine cw pt λok s7 P=>?_;obtain⟨H7,I7,q7⟩:=P;cases ok with|false=>obtain⟨m',hm,w7⟩:=q7;obtain⟨a1,a2,a3⟩:=again I7;exact⟨m',hm,i+1,O,H7,a1,a2,a3,w7⟩|true=>have pe:=bx _ s7 an H7 _ I7 q7;rw[xp,xw,xA,F,xe]at pe;refine cw pe λyv s8 P=>?_;obtain⟨y,H8,I8,r8,c1,cc,m',hm,w8⟩:=P;have ap:=eI (X:=M) _ s8 an H8 (.ref t.heap.objs.size) [y] _ [yv] (λv H9=>H9=aJ H8 t.heap.objs.size (.lst (O++[y]))) I8 rfl (.cons r8 .nil) ⟨_,O,y,rfl,rfl,c1,cc,rfl⟩;rw[xp,xw,xA,xe]at ap;refine cw ap λ_ s9 P=>?_;obtain⟨_,H9,I9,_,e9⟩:=P;subst e9;obtain⟨a1,a2,a3⟩:=again I9;exact⟨m',hm,i+1,O++[y],_,a1,a2,a3,w8⟩
 exact codeAny_compStart_list as (T.self _ 0 _ _ _ bS as)
def GA(l:N7)(ds:N_)(k:Nat)(hc:X.calm=true)(hi:PI X u c w)(z:∀cl C s₀ H₀ ex,PG (X.comp scope l cl C s₀ H₀ ex) u g/\Hu (X.comp scope l cl C s₀ H₀ ex) p tc/\PE (X.comp scope l cl C s₀ H₀ ex) r te)(hg:GK g A)(hj:∀t:St,t.length=X.N.length->∀j∈A,∀v,(io ds k t)[j]?≠some (some v))(d:scope.kind=.function)(e:∀y∈scope.names,y.2≠.cell)(a:∀y∈scope.names,y.2=.local->scope.names.lookup y.1=some .local)(f:∀y∈scope.names,y.2=.free->X.env.scope.names.lookup y.1=some .cell\/X.env.scope.names.lookup y.1=some .free)(B:l=X.N++n)(E:n.length=k)(o:∀i x,X.N[i]?=some x->scope.names.lookup x=some .local->i∈ds)(F:∀x,foldedSetIterable c X.env x=pure x:=by intro _;rfl):PE X (.ListComp r [⟨u,c,p,0⟩] scope G) (sj w g ds k tc te):=by intro b s t H Q I h;rw[eval_ListComp];refine vQ l ds k hc hi z hg hj d e a f B E o F I h λD C J O m K q hn n1 n2 n3 n4 L=>?_;exact⟨m,hn,λh' M=>⟨.ref D,J,K.block_gone n1 n2 n3 n4 L M,rfl,q⟩⟩
def Gs(t:N7)(ds:N_)(k:Nat)(G:X.N.Nodup)(J:X.N[i]?=some x)(R:Kk X.env.scope x)(S:X.fn x=true\/X.env.scope.names.lookup x=some .local)(L:swapsWith (.ListComp l [⟨F,c,n,0⟩] scope u) (some (.Name x d)) w.line X.env=pure true)(hc:X.calm=true)(hi:PI X F c T)(W:∀cl C s₀ H₀ ex,PG (X.comp scope t cl C s₀ H₀ ex) F g/\Hu (X.comp scope t cl C s₀ H₀ ex) n tc/\PE (X.comp scope t cl C s₀ H₀ ex) l te)(hg:GK g Z)(hj:∀M:St,M.length=X.N.length->∀j∈Z,∀v,(io ds k M)[j]?≠some (some v))(o:scope.kind=.function)(p:∀y∈scope.names,y.2≠.cell)(f:∀y∈scope.names,y.2=.local->scope.names.lookup y.1=some .local)(r:∀y∈scope.names,y.2=.free->X.env.scope.names.lookup y.1=some .cell\/X.env.scope.names.lookup y.1=some .free)(hN:t=X.N++B)(hk:B.length=k)(E:∀i x,X.N[i]?=some x->scope.names.lookup x=some .local->i∈ds)(hs:∀x,foldedSetIterable c X.env x=pure x:=by intro _;rfl):PS X (.Assign [.Name x d] (.ListComp l [⟨F,c,n,0⟩] scope u) w) (zq (sj T g ds k tc te) (ld i)):=by
 intro b s M H D I h;rw[exec_Assign_Name_used _ _ _ _ L];refine a_ (wpAny_standAt (a_ ?_));show wpAny _ X.A (do let _<-comprehension (.ListComp l [⟨F,c,n,0⟩] scope u) scope X.env _ (newList []) false (eval c X.env) (some (assign (.Name x d) X.env))) _ _ s;refine a_ (wpAny_mono (vQ (QV:=λ_ K=>SP X b D .next K) (use:=some (assign (.Name x d) X.env)) t ds k hc hi W hg hj o p f r hN hk E hs I h λDa C V K m Y q hn n1 n2 n3 n4 n5=>?_) (λ_ K hq=>eH (eH hq)) λ_ _ e=>e)
 show wpAny _ X.A (assign (.Name x d) X.env (.ref Da)) _ _ _;refine wpAny_assign_Name (vk Y G J R (v:=.ref Da) rfl (λaa O⟨a,sb,ha⟩=>?_) S);have P:C≠a:=by
  rcases ha with z|z
  ·rw[z];exact n2
  ·exactλe=>n4 x a z e.symm
 exact⟨m,hn.sameBut sb P,λh' Q=>⟨_,V,O.block_gone n1 n2 n3 n4 n5 Q,q⟩⟩
def qh(N0:N7)(ds:N_)(a scope:Scope):Bool:=scope.kind==.function&&scope.names.all (λy=>!(y.2==.cell)&&(!(y.2==.local)||scope.names.lookup y.1==some .local)&&(!(y.2==.free)||(a.names.lookup y.1==some .cell||a.names.lookup y.1==some .free)))&&N0.zipIdx.all λp=>!(scope.names.lookup p.1==some .local)||ds.contains p.2
def ub{N0:N7}{ds d:N_}{a scope:Scope}{k:Nat}(ok:qh N0 ds a scope=true)(hj:(d.all λj=>ds.contains j||decide (N0.length<=j))=true):(∀c:St,c.length=N0.length->∀j∈d,∀v,(io ds k c)[j]?≠some (some v))/\scope.kind=.function/\(∀y∈scope.names,y.2≠.cell)/\(∀y∈scope.names,y.2=.local->scope.names.lookup y.1=some .local)/\(∀y∈scope.names,y.2=.free->a.names.lookup y.1=some .cell\/a.names.lookup y.1=some .free)/\(∀i x,N0[i]?=some x->scope.names.lookup x=some .local->i∈ds):=by
 unfold qh at ok;rw[k4,k4]at ok;obtain⟨⟨h1,h2⟩,h3⟩:=ok;have h2:=List.all_eq_true.mp h2;have h3:=List.all_eq_true.mp h3;have hj:=List.all_eq_true.mp hj;refine⟨?_,(by simpa using h1),?_,?_,?_,?_⟩
 ·intro c hl j hm v e;obtain⟨_,f,l⟩:=yG e;have:=hj j hm;rw[Bool.or_eq_true]at this;rcases this with z|z
  ·exact f (by simpa using z)
  ·have:=i_ z;lia
 ·intro y b e;have:=h2 y b;rw[k4,k4]at this;have z:=this.1.1;rw[e]at z;exact absurd z (by decide)
 ·intro y b e;have:=h2 y b;rw[k4,k4]at this;have z:=this.1.2;rw[e]at z;simpa using z
 ·intro y b e;have:=h2 y b;rw[k4,k4]at this;have z:=this.2;rw[e]at z;simpa using z
 ·intro i x g h;have:=h3 (x,i) (by rw[List.mem_zipIdx_iff_getElem?];exact g);rw[Bool.or_eq_true]at this;rcases this with z|z
  ·rw[h]at z;exact absurd z (by decide)
  ·simpa using z
def Hh(N0 a:N7)(ds n:N_)(d:Scope){e h c:Expr}{f:N8}{scope:Scope}{i:Pos}{o:TI}{g:TG}{tc:TT}{te:TE}(hc:X.calm=true)(l:X.N=N0)(m:X.env.scope=d)(ok:qh N0 ds d scope=true)(hj:(n.all λj=>ds.contains j||decide (N0.length<=j))=true)(hg:GK g n)(hi:PI X h c o)(p:∀cl C s₀ H₀ ex,PG (X.comp scope (N0++a) cl C s₀ H₀ ex) h g/\Hu (X.comp scope (N0++a) cl C s₀ H₀ ex) f tc/\PE (X.comp scope (N0++a) cl C s₀ H₀ ex) e te)(r:∀x,foldedSetIterable c X.env x=pure x:=by intro _;rfl):PE X (.ListComp e [⟨h,c,f,0⟩] scope i) (sj o g ds a.length tc te):=by subst l;subst m;obtain⟨h1,h2,h3,h4,h5,h6⟩:=ub ok hj;exact GA (X.N++a) ds a.length hc hi p hg h1 h2 h3 h4 h5 rfl rfl h6 r
def Fd(N0 a:N7)(ds u:N_)(f:Scope){i:Nat}{x:Str}{d e:Pos}{h n c:Expr}{l:N8}{scope:Scope}{m:Pos}{v:TI}{g:TG}{tc:TT}{te:TE}(hc:X.calm=true)(o:X.N=N0)(p:X.env.scope=f)(ok:qh N0 ds f scope=true)(hj:(u.all λj=>ds.contains j||decide (N0.length<=j))=true)(hg:GK g u)(hi:PI X n c v)(y:∀cl C s₀ H₀ ex,PG (X.comp scope (N0++a) cl C s₀ H₀ ex) n g/\Hu (X.comp scope (N0++a) cl C s₀ H₀ ex) l tc/\PE (X.comp scope (N0++a) cl C s₀ H₀ ex) h te)(r:N0.Nodup)(s:N0[i]?=some x:=by rfl)(w:f.names.lookup x=some .local:=by rfl)(t:swapsWith (.ListComp h [⟨n,c,l,0⟩] scope m) (some (.Name x d)) e.line X.env=pure true:=by rfl)(z:∀x,foldedSetIterable c X.env x=pure x:=by intro _;rfl):PS X (.Assign [.Name x d] (.ListComp h [⟨n,c,l,0⟩] scope m) e) (zq (sj v g ds a.length tc te) (ld i)):=by subst o;subst p;obtain⟨h1,h2,h3,h4,h5,h6⟩:=ub ok hj;exact Gs (X.N++a) ds a.length r s (.inl w) (.inr w) t hc hi y hg h1 h2 h3 h4 h5 rfl rfl h6 z
end
end L2
namespace L2
open PySem PySem.Spec PyProof.Rows
section
variable{X:Cx}
def yX:db X (.builtin "isinstance") (λa H Q=>∃x T t b,a=[x,.ty T]/\lZ X.K H x t/\PySem.W.kitOne X.K t (.type T)=some b/\Q (.bl b) H):=by intro c s g H a i Q I r h;obtain⟨x,T,t,b,rfl,ty,e,q⟩:=h;obtain⟨u,d,rfl,f,rt⟩:=r6 r;obtain rfl:d=Value.type T:=rt;exact Cb I f ty e λtk=>⟨.bl b,H,I.tok tk,rfl,q⟩
def vV{bs:List Bool}{a:N5}(r:be (bs.map V.bl) a){i:Nat}{v:Value}(h:a[i]?=some v):∃b,bs[i]?=some b/\v=.bool b:=by
 have hl:=r.length;rw[b_]at hl;have hi:i<a.length:=(d_.mp h).1;have c:bs[i]?=some bs[i]:=by simp
 obtain⟨u,h1,h2⟩:=r.get (i:=i) (x:=.bl bs[i]) (by rw[f_,c];rfl);rw[h]at h1;cases h1;exact⟨bs[i],c,h2⟩
def BK{bs:List Bool}:((List.range bs.length).all λi=>bs.getD i true)=bs.all id:=by induction bs with|nil=>rfl|cons b r a=>
  rw[kl,List.range_succ_eq_map,MA,List.all_map,MA]
  congr 1
def BJ{bs:List Bool}:((List.range bs.length).any λi=>bs.getD i true)=bs.any id:=by induction bs with|nil=>rfl|cons b r a=>
  rw[kl,List.range_succ_eq_map,vl,List.any_map,vl]
  congr 1
def EI{A:Around}(h:A.handled=none):A.in1.handled=none:=h
def Cs(hc:X.calm=true):db X (.builtin "all") (λg H Q=>∃(p:Addr)(bs:List Bool),g=[.ref p]/\aX X.K H p (bs.map V.bl)/\Q (.bl (bs.all id)) H):=by
 intro j s z H g A Q I r h;obtain⟨p,bs,rfl,l,q⟩:=h;obtain⟨u,rfl,m⟩:=jO r;cases m;obtain⟨a,k,pl,hz⟩:=I.list l;refine call_all_walk (H_ pl.isList ?_);have d:p≠s.heap.objs.size:=h_ (by obtain⟨o,n,e,_⟩:=pl;exact gV e);have hl:=k.length;rw[b_]at hl;refine⟨s.heap.objs.size,_,_,_,_,_,λi=>bs.getD i true,rfl,Walks.list (EI (I.ok.hd hc)) s.heap.objs.size p d a.toArray,⟨⟨_,fy _ rfl,rfl,rfl⟩,?_⟩,?_,?_⟩
 ·exact pl.isList.push _
 ·intro i v t w B f c;have f:a.toArray[i]?=some v:=f;obtain⟨b,x,rfl⟩:=vV k (i:=i) (v:=v) (by simpa using f);refine oD ?_;have e:bs.getD i true=b:=by simp[List.getD,x]
  have c:w (bs.getD i true) t:=c;rw[e]at c;exact c
 ·intro h' tk y;have e:((List.range a.toArray.size).all λi=>bs.getD i true)=bs.all id:=by rw[hE,<-hl,BK]
  rw[e];exact⟨.bl _,H,I.kept (h':=h') (t':=tk) λb o e=>y b o (by simp[h_ (gV e)]) (c_ _ e),rfl,q⟩
def Cr(hc:X.calm=true):db X (.builtin "any") (λg H Q=>∃(p:Addr)(bs:List Bool),g=[.ref p]/\aX X.K H p (bs.map V.bl)/\Q (.bl (bs.any id)) H):=by
 intro j s z H g A Q I r h;obtain⟨p,bs,rfl,l,q⟩:=h;obtain⟨u,rfl,m⟩:=jO r;cases m;obtain⟨a,k,pl,hz⟩:=I.list l;refine call_any_walk (H_ pl.isList ?_);have d:p≠s.heap.objs.size:=h_ (by obtain⟨o,n,e,_⟩:=pl;exact gV e);have hl:=k.length;rw[b_]at hl;refine⟨s.heap.objs.size,_,_,_,_,_,λi=>bs.getD i true,rfl,Walks.list (EI (I.ok.hd hc)) s.heap.objs.size p d a.toArray,⟨⟨_,fy _ rfl,rfl,rfl⟩,?_⟩,?_,?_⟩
 ·exact pl.isList.push _
 ·intro i v t w B f c;have f:a.toArray[i]?=some v:=f;obtain⟨b,x,rfl⟩:=vV k (i:=i) (v:=v) (by simpa using f);refine oD ?_;have e:bs.getD i true=b:=by simp[List.getD,x]
  have c:w (bs.getD i true) t:=c;rw[e]at c;exact c
 ·intro h' tk y;have e:((List.range a.toArray.size).any λi=>bs.getD i true)=bs.any id:=by rw[hE,<-hl,BJ]
  rw[e];exact⟨.bl _,H,I.kept (h':=h') (t':=tk) λb o e=>y b o (by simp[h_ (gV e)]) (c_ _ e),rfl,q⟩
def Hy(x:Str):It:=⟨λi _=>i<x.cps.size,λi H y a=>a=H/\∃c,x.cps[i]?=some c/\y=.str ⟨#[c]⟩,λi _=>x.cps.size<=i⟩
def CI{P:N6}{w:World}{K:N1}{L:Expr}(a:Addr)(x:Str)(t:Tok)(f:String)(hn:["enumerate","zip","dict_itemiterator","dict_reverseitemiterator","odict_iterator","itertools.zip_longest","itertools.pairwise"].contains f=false)(W:∀A:Around,A.handled=none->Walks P w A a [a] [a] x.cps.size (SignAt x) (λi h=>h.IsStrIter a f x t i))(S:∀(A:Around)(i:Nat)(s:Shared)(Q:N2)(E:N2),s.heap.IsStrIter a f x t i->Q (.ref a) s->wpAny (model P w) A (pyIter (.ref a)) Q E s):u7 P w K L (Hy x) [a] a (λi h=>i<=x.cps.size/\h.IsStrIter a f x t i)where
 mem:=by simp
 obj:=λi h st b j=>by
  have e:b=a:=by simpa using j
  subst e;obtain⟨_,o,e,c,d⟩:=st;exact⟨o,e,λv z=>by rw[d]at z;cases z⟩
 keep:=λi h h' st k=>by obtain⟨l,o,e,r⟩:=st;exact⟨l,o,k a (by simp) o e,r⟩
 item:=by intro X p q y hc i g s J H E I n st hg;subst p q y;obtain⟨B,f1,f2,f3,C,D⟩:=n a (by simp);refine(W X.A (I.ok.hd hc)).item i s _ _ hg st.2 λv h' tk M m F=>?_;obtain⟨c,u,G,rfl⟩:=M;have I1:aN X g J H {s with heap:=h',toks:=tk}:=I.turned (λb o j e=>F b o (by simpa using j) e) B f1 f3 C D;obtain⟨o,e,N,d⟩:=id m;have O:i<x.cps.size:=hg;exact⟨_,rfl,vI (s:={s with heap:=h',toks:=tk}) e N d hn ⟨.str ⟨#[c]⟩,H,I1,⟨u,rfl⟩,⟨rfl,c,G,rfl⟩,⟨by omega,m⟩,λb j=>(n b j).1⟩⟩
 done:=by intro X p q y hc i g s J H E I n st hg;subst p q y;obtain⟨B,f1,f2,f3,C,D⟩:=n a (by simp);have e:i=x.cps.size:=Nat.le_antisymm st.1 hg;subst e;exact(W X.A (I.ok.hd hc)).done s _ _ st.2 λh' tk F=>⟨rfl,I.turned (λb o j e=>F b o (by simpa using j) e) B f1 f3 C D⟩
 self:=λA i s Q E st h=>S A i s Q E st.2 h
def Mb(a:TE):TI:=λb H R=>a b H λv c=>∃x,v=.str x/\R (Hy x) c
def DJ{g l:Expr}{j:TE}(hl:PE X l j):PI X g l (Mb j):=by
 intro d s k H R I h;refine cw (hl d s k H _ I h) λv a n=>?_;obtain⟨y,p,I1,r,u⟩:=n;obtain⟨x,e,q⟩:=u;subst e;obtain⟨t,rfl⟩:=r;have fin:∀(c:String)(ob:Obj),(["enumerate","zip","dict_itemiterator","dict_reverseitemiterator","odict_iterator","itertools.zip_longest","itertools.pairwise"].contains c=false)->(∀A:Around,A.handled=none->Walks X.prog X.w A a.heap.objs.size [a.heap.objs.size] [a.heap.objs.size] x.cps.size (SignAt x) (λi h=>h.IsStrIter a.heap.objs.size c x t i))->(∀(A:Around)(i:Nat)(s:Shared)(Q:N2)(E:N2),s.heap.IsStrIter a.heap.objs.size c x t i->Q (.ref a.heap.objs.size) s->wpAny (model X.prog X.w) A (pyIter (.ref a.heap.objs.size)) Q E s)->(a.heap.push ob).IsStrIter a.heap.objs.size c x t 0->Ml X d k g R (.ref a.heap.objs.size) {a with heap:=a.heap.push ob}:=λc ob h1 h2 h3 h4=>by
  refine⟨a.heap.objs.size,[a.heap.objs.size],_,Hy x,p,rfl,I1.kept (t':=a.toks) λb o e=>c_ _ e,CI _ x t c h1 h2 h3,⟨j1 _,h4⟩,λb z=>?_,q⟩;have e:b=a.heap.objs.size:=by simpa using z
  subst e;exact I1.fpOk (eN _) (I1.hok.fresh (eN _))
 cases m:x.cps.all (·<128)
 ·exact wpAny_pyIter_wide m (fin "str_iterator" _ (by decide) (λA f=>Walks.strWide f _ x t) (λA i s Q E st h=>wpAny_pyIter_striter_wide st h) ⟨_,fy _ rfl,rfl,rfl⟩)
 ·exact wpAny_pyIter_ascii m (fin "str_ascii_iterator" _ (by decide) (λA f=>Walks.strAscii f _ x t) (λA i s Q E st h=>wpAny_pyIter_striter_ascii st h) ⟨_,fy _ rfl,rfl,rfl⟩)
def Hf{x:Str}{g:TG}{l:TS}{D:lq}{a:St}{H:Hp}(Pv:Nat->St->Hp->Prop)(h0:Pv 0 a H)(o:∀i c a H,x.cps.toList[i]?=some c->Pv i a H->g (.str ⟨#[c]⟩) a H λd j=>l {D with nx:=Pv (i+1),ct:=Pv (i+1),bk:=D.nx} d j)(hd:∀a H,Pv x.cps.toList.length a H->D.nx a H):∃W:Nat->Nat->St->Hp->Prop,(∃m,W 0 m a H)/\∀i m a H,W i m a H->((Hy x).stop i H/\D.nx a H)\/((Hy x).go i H/\∃N:St->Hp->Prop,(∀f h,N f h->∃n,n<m/\W (i+1) n f h)/\∀y h,(Hy x).yld i H y h->g y a h λd j=>l {D with nx:=N,ct:=N,bk:=D.nx} d j):=by
 have hl:x.cps.toList.length=x.cps.size:=by simp
 refine⟨λi m a H=>m=x.cps.size-i/\i<=x.cps.size/\Pv i a H,⟨x.cps.size,by simp,j1 _,h0⟩,?_⟩;rintro i m a H⟨rfl,hi,p⟩
 by_cases b:i<x.cps.size
 ·refine .inr ⟨b,Pv (i+1),λf h k=>⟨x.cps.size-(i+1),by omega,rfl,b,k⟩,λy h q=>?_⟩;obtain⟨e,c,hc,rfl⟩:=q;subst e;exact o i c a _ (by simpa using hc) p
 ·have e:i=x.cps.size:=by omega
  subst e;exact .inl ⟨eN _,hd a H (by rw[hl];exact p)⟩
def IV:V->List V->Hp->VK->Prop:=λx a H Q=>∃z y i r,x=.str z/\a=[.str y]/\Builtin.Str.occurrences z y 0 z.length 1=i::r/\Q (.int (i:Nat)) H
def D7:Mm X "str.index" IV:=by intro a s e H x f v g Q I b c h;obtain⟨z,y,i,r,rfl,rfl,d,q⟩:=h;obtain⟨t,rfl⟩:=b;obtain⟨u,rfl,j,rfl⟩:=jO c;exact SC.index d ⟨.int _,H,I.tok _,⟨_,rfl⟩,q⟩
end
end L2
namespace L2
open PySem PySem.Spec PyProof.Rows
section
variable{X:Cx}(K:N1)(c:X.K=K)
include c
def aG:db X (.builtin "len") (λa H Q=>∃x n,a=[x]/\LA K x H n/\Q (.int n) H):=by subst c;exact Fh
def iL:db X (.builtin "isinstance") (λa H Q=>∃x T t b,a=[x,.ty T]/\lZ K H x t/\PySem.W.kitOne K t (.type T)=some b/\Q (.bl b) H):=by subst c;exact yX
def iM(hc:X.calm=true):db X (.builtin "all") (λa H Q=>∃(p:Addr)(bs:List Bool),a=[.ref p]/\aX K H p (bs.map V.bl)/\Q (.bl (bs.all id)) H):=by subst c;exact Cs hc
def qj(hc:X.calm=true):db X (.builtin "any") (λa H Q=>∃(p:Addr)(bs:List Bool),a=[.ref p]/\aX K H p (bs.map V.bl)/\Q (.bl (bs.any id)) H):=by subst c;exact Cr hc
def EB:Kl X (IU K):=by subst c;exact GZ
def GY:Kl X (IT K):=by subst c;exact Jx
def sy:Ki X (KN K):=by subst c;exact Gn
def AB:Ki X (KM K):=by subst c;exact IO
def nB:lg X (compareOp .In) (LI K false):=by subst c;exact BP
def x5:lg X (binaryOp .Add) (HF K):=by subst c;exact GD
def Ap:db X (.type "list") (λd H Q=>∃p a,d=[.ref p]/\(aX K H p a\/bd K H p a)/\∀l,H l=none->Q (.ref l) (aJ H l (.lst a))):=by subst c;exact wV
def fZ:db X (.type "tuple") (λd H Q=>∃p a,d=[.ref p]/\((aX K H p a/\∀l,H l=none->Q (.ref l) (aJ H l (.tup a)))\/(bd K H p a/\Q (.ref p) H))):=by subst c;exact u3
def eA{d l:Expr}{a:TE}(hl:PE X l a):PI X d l (HM K a):=by subst c;exact Gw hl
def iB{d l:Expr}{a:TE}(hl:PE X l a):PI X d l (Lg K a):=by subst c;exact IZ hl
def aM{a:Expr}{e:TE}(g:PE X a e)(h:∀d,isTrue a X.env d=(do let v<-d;standAt a.pos;holding [v] (truthy v))):PT X a (λi H Q=>e i H λx f=>∃k,JY K x f k/\Q k f):=by subst c;exact DG g h
def iD{f:N8}{k:Nat}{a:Pos}{t:Kh}{n:Nat}(hc:X.calm=true)(h:J0 X f t)(hn:(assignEach f X.env).length=n:=by rfl)(d:(assignEach f X.env).findIdx? (·.1)=none:=by rfl):PG X (.Tuple f k a) (JE K n t):=by subst c;exact I0 hc h hn d
variable{o e:Expr}{f:N8}{j:TE}{t:TA}{g:Str}{i d:Pos}{T id:String}{r:V->List V->Hp->VK->Prop}
def ii(p:PlainAttrs T)(slot:Slot T g id)(n:typeOf (.builtin id)=pure (.type "method_descriptor"))(hm:Mm X id r)(s:PE X o j)(u:PA X (e::f) t)(h:attributeBase o g X.env (eval o X.env)=eval o X.env:=by rfl)(m:((backTo d (starEach (e::f) X.env)).all (λx=>!x.1)&&(backToKw d (keywordEach [] X.env)).all (λx=>x.1.isSome)&&decide ((e::f).length+([]:List Keyword).length+(if([]:List Keyword).isEmpty then 0 else 1)<30))=true:=by rfl)(l:(i.endLine==d.line)=true:=by rfl)(v:starEach (e::f) X.env=(false,eval e X.env)::starEach f X.env:=by rfl)(a:(backTo d (starEach f X.env)).any (·.1)=false:=by rfl):PE X (.Call (.Attribute o g i) (e::f) [] d) (tBM K T r j t):=by subst c;exact KY p slot n hm s u h m l v a
end
end L2
namespace L2
open PySem PySem.Spec PyProof.Rows
def aK:bootBuiltins "len"=some (.builtin "len"):=by decide+kernel
def Fl:bootBuiltins "max"=some (.builtin "max"):=by decide+kernel
def uh:bootBuiltins "min"=some (.builtin "min"):=by decide+kernel
def a9:bootBuiltins "isinstance"=some (.builtin "isinstance"):=by decide+kernel
def kz:bootBuiltins "all"=some (.builtin "all"):=by decide+kernel
def uj:bootBuiltins "any"=some (.builtin "any"):=by decide+kernel
def y8:bootBuiltins "divmod"=some (.builtin "divmod"):=by decide+kernel
def qT:bootBuiltins "sorted"=some (.builtin "sorted"):=by decide+kernel
def Fk:bootBuiltins "sum"=some (.builtin "sum"):=by decide+kernel
def y7:bootBuiltins "int"=some (.type "int"):=by decide+kernel
def y6:bootBuiltins "str"=some (.type "str"):=by decide+kernel
def vU:bootBuiltins "bool"=some (.type "bool"):=by decide+kernel
def vT:bootBuiltins "list"=some (.type "list"):=by decide+kernel
def ce:bootBuiltins "tuple"=some (.type "tuple"):=by decide+kernel
def Cv:bootBuiltins "dict"=some (.type "dict"):=by decide+kernel
def ug:bootBuiltins "set"=some (.type "set"):=by decide+kernel
def ui:bootBuiltins "enumerate"=some (.type "enumerate"):=by decide+kernel
def Fj:bootBuiltins "zip"=some (.type "zip"):=by decide+kernel
def u5:bootBuiltins "reversed"=some (.type "reversed"):=by decide+kernel
section
variable{X:Cx}
def jm(hg:Gl X x)(hm:X.mg x=none)(a:bootBuiltins x=some (.type T))(hn:x≠"__name__":=by decide)(hd:(x==("__debug__":Str))=false:=by decide):PE X (.Name x c) (tC (.ty T)):=GB hg hm a rfl hn hd
def cJ(hm:∃u,X.mg x=some u/\aY v u)(hg:Gl X x)(hd:(x==("__debug__":Str))=false:=by decide):PE X (.Name x a) (tC v):=by obtain⟨u,h1,h2⟩:=hm;exact AK hg h1 h2 hd
end
def fC{K:N1}{A B:String}{b:Bool}(h:(if((Value.type A)==.type B)=true then some true else if PySem.W.kitMeta B=true then(fastBuiltinMro A).map (·.contains (.type B))else none)=some b):PySem.W.kitOne K (.type A) (.type B)=some b:=h
def kj{i j:Int}{A B:Prop}(h1:i=j->A)(h2:i≠j->B):if decide (V.int i=V.int j)=true then A else B:=by
 by_cases h:i=j
 ·subst h;rw[il rfl];exact bD (h1 rfl)
 ·rw[iA (λe=>h (V.int.inj e))];exact bX (h2 h)
def iZ{c:Prop}[Decidable c]{A B:Prop}(h1:c->A)(h2:¬c->B):if decide c=true then A else B:=by
 by_cases h:c
 ·rw[il h];exact bD (h1 h)
 ·rw[iA h];exact bX (h2 h)
def wN{b:Bool}{A B:Prop}(h1:b=true->A)(h2:b=false->B):if b=true then A else B:=by cases b with|true=>exact bD (h1 rfl)|false=>exact bX (h2 rfl)
def aq(h:F (a.set j (some x)) H):ld j x a H F:=h
def jB(h:F true H):Ko a H F:=h
def Jk(h:aJ H a o b=none):b≠a/\H b=none:=by
 by_cases e:b=a
 ·rw[e,ag]at h;cases h
 ·rw[ao e]at h;exact⟨e,h⟩
def aZ(i:Int){n:Int}(h:0<n):0<=i%n/\i%n<n:=⟨MI _ (by lia),F_ _ h⟩
def Jo(x:Int):Builtin.bitAnd x 2147483647=x%2147483648:=PySem.W.kbt_mask x 31
end L2
namespace L2
open PySem PySem.Spec PyProof.Rows
section
variable{X:Cx}
def L3:V->Option Int->Option Int->Hp->VK->Prop:=λx lo hi H Q=>∃z,x=.str z/\z.length<=sizeLine/\Q (.str (Txt.slice z lo hi)) H
def wj:Ki X L3:=by intro a s f H x v m n lo hi sl Q I g b pl c h;obtain⟨z,rfl,hz,q⟩:=h;obtain⟨t,rfl⟩:=g;refine⟨"str",_,F.slot_str_getitem.lookup,typeIs_str _ _ _,?_⟩;have fin:∀(d:Tok)(k:Nat),EP X a f Q (.str (Txt.slice z lo hi) d) {s with toks:=k}:=λd k=>⟨.str _,H,I.tok k,⟨_,rfl⟩,q⟩;cases pl with
 |none=>cases c with|none=>exact Ha (l:=none) (u:=none) (st:=none) b rfl (Nj ⟨j_ (Txt.slice_le z _ _) hz,fin⟩)|int j u=>exact Ha (l:=none) (u:=some (j,u)) (st:=none) b rfl (Nj ⟨j_ (Txt.slice_le z _ _) hz,fin⟩)
 |int i e=>cases c with|none=>exact Ha (l:=some (i,e)) (u:=none) (st:=none) b rfl (Nj ⟨j_ (Txt.slice_le z _ _) hz,fin⟩)|int j u=>exact Ha (l:=some (i,e)) (u:=some (j,u)) (st:=none) b rfl (Nj ⟨j_ (Txt.slice_le z _ _) hz,fin⟩)
end
end L2
namespace L2
open PySem PySem.Spec PyProof.Rows
def HW{c:Bool}{t u:TS}{D:lq}{a:St}{H:Hp}(J:St->Hp->Prop)(h1:∀a H,J a H->D.nx a H)(h2:∀N:St->Hp->Prop,(∀a H,J a H->N a H)->if c=true then t {D with nx:=N} a H else u {D with nx:=N} a H):if c=true then t D a H else u D a H:=h2 D.nx h1
def qK(h:D.nx a H):xv D a H:=h
def aj(h:am c H)(hn:H a=none):am c (aJ H a o):=λb d f=>by have e:=h b d f;rw[ao (aH e hn)];exact e
def zb(h0:0<=i)(h1:i<xs.length):∃c,um xs i=some c/\c∈xs:=by refine⟨xs[i.toNat]'(by lia),?_,Mz _⟩;unfold um G7;rw[gn h0,gn h1];show xs[i.toNat]?=_;rw[fx (by lia)]
def df{n:Nat}(h:n<=65536):n<=sizeLine:=by rw[g8];lia
mutual
inductive Cz(K:N1)(H:Hp):V->PyData->Prop|non:Cz K H .non .none|bl(b:Bool):Cz K H (.bl b) (.bool b)|int(i:Int):Cz K H (.int i) (.int i)|str(x:Str):Cz K H (.str x) (.str x)|lst{a:Addr}{xs:List V}{ds:List PyData}:aX K H a xs->IsPs K H xs ds->Cz K H (.ref a) (.list ds)|tup{a:Addr}{xs:List V}{ds:List PyData}:bd K H a xs->IsPs K H xs ds->Cz K H (.ref a) (.tuple ds)
inductive IsPs(K:N1)(H:Hp):List V->List PyData->Prop|nil:IsPs K H [] []|cons{v:V}{d:PyData}{vs:List V}{ds:List PyData}:Cz K H v d->IsPs K H vs ds->IsPs K H (v::vs) (d::ds)
end
section
variable{X:Cx}{c:N3}{f:St}{H:Hp}{s:Shared}
mutual
theorem Cz.reads(I:aN X c f H s):∀{v:V}{d:PyData}{u:Value},Cz X.K H v d->aY v u->∃g,Reads s.heap u d g|_,_,_,.non,r=>by obtain rfl:_=Value.none:=r;exact⟨_,.none⟩|_,_,_,.bl b,r=>by obtain rfl:_=Value.bool b:=r;exact⟨_,.bool b⟩|_,_,_,.int i,r=>by obtain⟨t,rfl⟩:=r;exact⟨_,.int i t⟩|_,_,_,.str x,r=>by obtain⟨t,rfl⟩:=r;exact⟨_,.str x t⟩|_,_,_,.lst (a:=a) h j,r=>by obtain rfl:_=Value.ref a:=r;obtain⟨k,l,⟨o,n,e,hc,_,hd⟩,_⟩:=I.list h;obtain⟨g,q⟩:=IsPs.reads I j l;exact⟨_,.list e hc hd (by simpa using q)⟩|_,_,_,.tup (a:=a) h j,r=>by obtain rfl:_=Value.ref a:=r;obtain⟨k,l,⟨o,e,hc,n,hd⟩,_⟩:=I.tuple h;obtain⟨g,q⟩:=IsPs.reads I j l;exact⟨_,.tuple e hc hd (by simpa using q)⟩
theorem IsPs.reads(I:aN X c f H s):∀{a:List V}{ds:List PyData}{d:N5},IsPs X.K H a ds->be a d->∃e,ReadsAll s.heap d ds e|_,_,_,.nil,r=>by cases r;exact⟨_,.nil⟩|_,_,_,.cons h b,r=>by cases r with|cons g r2=>obtain⟨e,q⟩:=Cz.reads I h g;obtain⟨bs,p⟩:=IsPs.reads I b r2;exact⟨_,.cons q p⟩
end
end
section
variable{X:Cx}
def KR(K:N1):R2:=λx y H Q=>∃d e,Cz K H x d/\Cz K H y e/\SeqAt.shaped d=true/\SeqAt.shaped e=true/\Q (.bl (PyData.eqv d e)) H
def Jf(c:X.A.units+64<cLine):lg X (compareOp .Eq) (KR X.K):=by intro a s i H x y v u Q I b f h;obtain⟨d,e,h1,h2,h3,h4,q⟩:=h;obtain⟨j,g⟩:=h1.reads I b;obtain⟨bs,r2⟩:=h2.reads I f;exact eq_dataH g r2 h3 h4 c ⟨.bl _,H,I,rfl,q⟩
def JB{A:Around}{k:Nat}(a:eQ k A):A.units+64<cLine:=by have:=a.un;lia
def AM(K:N1)(a:X.K=K)(c:X.A.units+64<cLine):lg X (compareOp .Eq) (KR K):=by subst a;exact Jf c
def Fg(hc:X.calm=true):db X (.builtin "sum") (λa H Q=>∃(p:Addr)(ns:Ob),a=[.ref p]/\(aX X.K H p (ns.map V.int)\/bd X.K H p (ns.map V.int))/\Q (.int ns.sum) H):=by
 intro j s n H a o Q I r h;obtain⟨p,ns,rfl,d,q⟩:=h;obtain⟨u,rfl,l⟩:=jO r;cases l;have k:∀{b:N5},be (ns.map V.int) b->∃a:Array (Int×Tok),b.toArray=intItems a/\preSum (numAt a) a.size=ns.sum:=λf=>by
  have hi:IntsAre _ ns:=Aa f;obtain⟨a,c⟩:=hi.allInts.items;refine⟨a,c,?_⟩;have m:ns=a.toList.map (·.1):=by rw[<-nums_intItems,<-c];exact hi.numsOf.symm
  rw[preSum_eq,hH (by simp),m]
 rcases d with d|d
 ·obtain⟨b,f,pl,hz⟩:=I.list d;obtain⟨a,c,e⟩:=k f;refine sum_intListG (I.ok.hd hc) (xs:=a) (c▸pl.isList) λh' tk g i=>?_;rw[e];exact⟨.int _,H,I.kept (h':=h') (t':=tk) i,⟨_,rfl⟩,q⟩
 ·obtain⟨b,f,pt,hz⟩:=I.tuple d;obtain⟨a,c,e⟩:=k f;refine PySem.W.ktm_sumG (I.ok.hd hc) (xs:=a) (c▸pt) λh' tk g i=>?_;rw[e];exact⟨.int _,H,I.kept (h':=h') (t':=tk) i,⟨_,rfl⟩,q⟩
def Cn(K:N1)(a:X.K=K)(hc:X.calm=true):db X (.builtin "sum") (λc H Q=>∃(p:Addr)(ns:Ob),c=[.ref p]/\(aX K H p (ns.map V.int)\/bd K H p (ns.map V.int))/\Q (.int ns.sum) H):=by subst a;exact Fg hc
end
section
variable{X:Cx}
end
def bM(h:am d H)(hn:d a=none):am d (aJ H a o):=λb f c=>by
 have:b≠a:=λe=>by rw[e,hn]at c;cases c
 rw[ao this];exact h b f c
def ak{a:Type}{c:List a}{k:Nat}{v:a}(h:c[k]?=some v):um c (k:Int)=some v:=by have hl:=(d_.mp h).1;unfold um G7;rw[gn (by lia),gn (by lia)];exact h
def my{ns:Ob}{k:Int}(h0:0<=k)(h1:k<ns.length):um (ns.map V.int) k=some (.int (ns.getD k.toNat 0)):=by obtain⟨n,rfl⟩:∃n:Nat,k=n:=⟨k.toNat,by lia⟩;refine ak ?_;rw[f_,fx (by lia)];simp only[kt,List.getD,fx (show n<ns.length by lia)];rfl
def G0{n:Nat}{k:Int}(h0:0<=k)(h1:k<n):G7 n k=some k.toNat:=by unfold G7;rw[gn h0,gn h1]
def yw(ns:Ob)(j:Nat)(v:Int):(ns.map V.int).set j (.int v)=(ns.set j v).map V.int:=by rw[List.map_set]
def am.tseq{K:N1}{H c:Hp}{a:Addr}{d:List V}(e:am H c)(h:bd K H a d):bd K c a d:=by
 rcases h with h|h
 ·rcases h with h|⟨o,h⟩
  ·exact .inl (.inl (e _ _ h))
  ·exact .inl (.inr ⟨o,e _ _ h⟩)
 ·exact .inr h
@[irreducible]def dw:Int:=10^(30:Int).toNat
def xu:dw=10^(30:Int).toNat:=by unfold dw;rfl
def vg:1000000000000000000<dw:=by rw[xu];decide+kernel
section
variable{X:Cx}
def tL:lg X (binaryOp .Pow) (λx y H Q=>x=.int 10/\y=.int 30/\Q (.int dw) H):=by intro a s b H x y v u Q I c d h;obtain⟨rfl,rfl,q⟩:=h;rw[xu]at q;exact Je a s b H _ _ v u Q I c d ⟨10,30,rfl,rfl,⟨by decide,by decide,by decide⟩,q⟩
end
def lf{n i:Nat}{P:Prop}(hi:i<n)(h:P):∃a,a<n-i/\a=n-(i+1)/\i+1<=n/\P:=⟨_,by lia,rfl,hi,h⟩
def d6{K:N1}{lo:Int}{n:Nat}{g:TG}{ds:N_}{k:Nat}{tc:TT}{te:TE}{s:St}{t:Hp}{D:Addr}{F:Hp->Prop}(Pv:Nat->List V->Hp->Prop)(h0:Pv 0 [] (aJ t D (.lst [])))(u:∀i a c,i<n->Pv i a c->g (.int (lo+i)) (io ds k s) c λd o=>tc d o λb h=>if b=true then te d h λy j=>j D=some (.lst a)/\a.length<sizeLine/\∃f,f<n-i/\f=n-(i+1)/\i+1<=n/\Pv (i+1) (a++[y]) (aJ j D (.lst (a++[y])))else∃f,f<n-i/\f=n-(i+1)/\i+1<=n/\Pv (i+1) a h)(hd:∀a c,Pv n a c->F c):∃W:Nat->Nat->List V->Hp->Prop,(∃m,W 0 m [] (aJ t D (.lst [])))/\∀i m a c,W i m a c->((FB lo n).stop i c/\F c)\/((FB lo n).go i c/\∀x r,(FB lo n).yld i c x r->g x (io ds k s) r λd o=>tc d o λb h=>if b=true then te d h λy j=>j D=some (.lst a)/\a.length<sizeLine/\∃f,f<m/\W (i+1) f (a++[y]) (aJ j D (.lst (a++[y])))else∃f,f<m/\W (i+1) f a h):=by
 refine⟨λi m a c=>m=n-i/\i<=n/\Pv i a c,⟨_,rfl,j1 _,h0⟩,?_⟩;rintro i m a c⟨rfl,hi,p⟩
 by_cases l:i<n
 ·refine .inr ⟨l,λx r y=>?_⟩;obtain⟨e,y⟩:=y;subst e y;exact u i a _ l p
 ·have e:i=n:=by lia
  subst e;exact .inl ⟨eN _,hd a c p⟩
def mx{K:N1}{a:Addr}{xs:List V}{g:TG}{ds:N_}{k:Nat}{tc:TT}{te:TE}{s:St}{t:Hp}{D:Addr}{F:Hp->Prop}(Pv:Nat->List V->Hp->Prop)(h0:Pv 0 [] (aJ t D (.lst [])))(hl:∀i c d,i<=xs.length->Pv i c d->aX K d a xs)(u:∀i x c d,xs[i]?=some x->Pv i c d->g x (io ds k s) d λf n=>tc f n λb j=>if b=true then te f j λy l=>l D=some (.lst c)/\c.length<sizeLine/\∃h,h<xs.length-i/\h=xs.length-(i+1)/\i+1<=xs.length/\Pv (i+1) (c++[y]) (aJ l D (.lst (c++[y])))else∃h,h<xs.length-i/\h=xs.length-(i+1)/\i+1<=xs.length/\Pv (i+1) c j)(hd:∀c d,Pv xs.length c d->F d):∃W:Nat->Nat->List V->Hp->Prop,(∃m,W 0 m [] (aJ t D (.lst [])))/\∀i m c d,W i m c d->((HZ K a).stop i d/\F d)\/((HZ K a).go i d/\∀x o,(HZ K a).yld i d x o->g x (io ds k s) o λf n=>tc f n λb j=>if b=true then te f j λy l=>l D=some (.lst c)/\c.length<sizeLine/\∃h,h<m/\W (i+1) h (c++[y]) (aJ l D (.lst (c++[y])))else∃h,h<m/\W (i+1) h c j):=by
 refine⟨λi m c d=>m=xs.length-i/\i<=xs.length/\Pv i c d,⟨_,rfl,j1 _,h0⟩,?_⟩;rintro i m c d⟨rfl,hi,p⟩;have q:=hl i c d hi p
 by_cases r:i<xs.length
 ·refine .inr ⟨⟨xs,xs[i],q,by simp[r]⟩,λx o y=>?_⟩;obtain⟨e,y⟩:=y;subst e;exact u i x c _ (y xs q) p
 ·have e:i=xs.length:=by lia
  subst e;exact .inl ⟨⟨xs,q,eN _⟩,hd c d p⟩
def ib{K:N1}{a:Addr}{xs:List V}{g:TG}{ds:N_}{k:Nat}{tc:TT}{te:TE}{s:St}{t:Hp}{D:Addr}{F:Hp->Prop}(Pv:Nat->List V->Hp->Prop)(h0:Pv 0 [] (aJ t D (.lst [])))(hl:∀i c d,i<=xs.length->Pv i c d->bd K d a xs)(u:∀i x c d,xs[i]?=some x->Pv i c d->g x (io ds k s) d λf n=>tc f n λb j=>if b=true then te f j λy l=>l D=some (.lst c)/\c.length<sizeLine/\∃h,h<xs.length-i/\h=xs.length-(i+1)/\i+1<=xs.length/\Pv (i+1) (c++[y]) (aJ l D (.lst (c++[y])))else∃h,h<xs.length-i/\h=xs.length-(i+1)/\i+1<=xs.length/\Pv (i+1) c j)(hd:∀c d,Pv xs.length c d->F d):∃W:Nat->Nat->List V->Hp->Prop,(∃m,W 0 m [] (aJ t D (.lst [])))/\∀i m c d,W i m c d->((HY K a).stop i d/\F d)\/((HY K a).go i d/\∀x o,(HY K a).yld i d x o->g x (io ds k s) o λf n=>tc f n λb j=>if b=true then te f j λy l=>l D=some (.lst c)/\c.length<sizeLine/\∃h,h<m/\W (i+1) h (c++[y]) (aJ l D (.lst (c++[y])))else∃h,h<m/\W (i+1) h c j):=by
 refine⟨λi m c d=>m=xs.length-i/\i<=xs.length/\Pv i c d,⟨_,rfl,j1 _,h0⟩,?_⟩;rintro i m c d⟨rfl,hi,p⟩;have q:=hl i c d hi p
 by_cases r:i<xs.length
 ·refine .inr ⟨⟨xs,xs[i],q,by simp[r]⟩,λx o y=>?_⟩;obtain⟨e,y⟩:=y;subst e;exact u i x c _ (y xs q) p
 ·have e:i=xs.length:=by lia
  subst e;exact .inl ⟨⟨xs,q,eN _⟩,hd c d p⟩
def Fc{K:N1}{z:Str}{g:TG}{ds:N_}{k:Nat}{tc:TT}{te:TE}{r:St}{s:Hp}{D:Addr}{F:Hp->Prop}(Pv:Nat->List V->Hp->Prop)(h0:Pv 0 [] (aJ s D (.lst [])))(t:∀i c a d,z.cps.toList[i]?=some c->Pv i a d->g (.str ⟨#[c]⟩) (io ds k r) d λf n=>tc f n λb j=>if b=true then te f j λy l=>l D=some (.lst a)/\a.length<sizeLine/\∃h,h<z.cps.toList.length-i/\h=z.cps.toList.length-(i+1)/\i+1<=z.cps.toList.length/\Pv (i+1) (a++[y]) (aJ l D (.lst (a++[y])))else∃h,h<z.cps.toList.length-i/\h=z.cps.toList.length-(i+1)/\i+1<=z.cps.toList.length/\Pv (i+1) a j)(hd:∀a d,Pv z.cps.toList.length a d->F d):∃W:Nat->Nat->List V->Hp->Prop,(∃m,W 0 m [] (aJ s D (.lst [])))/\∀i m a d,W i m a d->((Hy z).stop i d/\F d)\/((Hy z).go i d/\∀x o,(Hy z).yld i d x o->g x (io ds k r) o λf n=>tc f n λb j=>if b=true then te f j λy l=>l D=some (.lst a)/\a.length<sizeLine/\∃h,h<m/\W (i+1) h (a++[y]) (aJ l D (.lst (a++[y])))else∃h,h<m/\W (i+1) h a j):=by
 refine⟨λi m a d=>m=z.cps.toList.length-i/\i<=z.cps.toList.length/\Pv i a d,⟨_,rfl,j1 _,h0⟩,?_⟩;rintro i m a d⟨rfl,hi,p⟩;have hl:z.cps.toList.length=z.cps.size:=by simp
 by_cases q:i<z.cps.size
 ·refine .inr ⟨q,λy o u=>?_⟩;obtain⟨e,c,hc,rfl⟩:=u;subst e;exact t i c a _ (by simpa using hc) p
 ·have e:i=z.cps.toList.length:=by lia
  subst e;exact .inl ⟨by show z.cps.size<=_;lia,hd a d p⟩
section
variable{X:Cx}
end
def ED{i j:Str}{A B:Prop}(h1:i=j->A)(h2:i≠j->B):if decide (V.str i=V.str j)=true then A else B:=by
 by_cases h:i=j
 ·subst h;rw[il rfl];exact bD (h1 rfl)
 ·rw[iA (λe=>h (V.str.inj e))];exact bX (h2 h)
end L2
namespace L2
open PySem PySem.Spec PyProof.Rows
abbrev fG(led:Bool):Obj:={cls:=.type "set",dict:=none,data:=.set #[] 0 (.fresh 0 0 led)}
def tW{a:Type}[BEq a](c:Nat->a)(i:Nat):List a:=((List.range i).map c).foldl step_dedup []
section
variable{a:Type}[DecidableEq a][BEq a][LawfulBEq a]
def vB(c:Nat->a)(i:Nat):tW c (i+1)=step_dedup (tW c i) (c i):=by show((List.range (i+1)).map c).foldl step_dedup []=_;rw[s_,gg,u6];rfl
def Ee(c:Nat->a)(i:Nat):(tW c i).length<=i:=by induction i with|zero=>exact eN 0|succ i b=>
  rw[vB];unfold step_dedup
  split
  ·exact rl b
  ·rw[ga];exact tA b
end
def py(b:Bool)(h:Heap)(a:Addr)(c:N9):Prop:=∃o,h.get? a=some o/\o.cls=.type (cond b "list" "tuple")/\∃n,o.data=.seq c n
def qw(b:Bool)(h:Heap)(a l:Addr)(i:Nat):Prop:=∃o,h.get? a=some o/\o.cls=.type (cond b "list_iterator" "tuple_iterator")/\o.data=.fields #[.ref l,.int i 0]
def py.at{b:Bool}{h h':Heap}{a:Addr}{c:N9}(x:py b h a c)(e:∀o,h.get? a=some o->h'.get? a=some o):py b h' a c:=Exists.imp (λ_ r=>⟨e _ r.1,r.2⟩) x
def qw.at{b:Bool}{h h':Heap}{a l:Addr}{i:Nat}(x:qw b h a l i)(e:∀o,h.get? a=some o->h'.get? a=some o):qw b h' a l i:=Exists.imp (λ_ r=>⟨e _ r.1,r.2⟩) x
section
variable{P:N6}{w:World}{A:Around}{E:N2}{s:Shared}
def Az{b:Bool}{l:Addr}{a:N9}{Q:N2}(hl:py b s.heap l a)(q:Q (.ref s.heap.objs.size) {s with heap:=s.heap.push {cls:=.type (cond b "list_iterator" "tuple_iterator"),data:=.fields #[.ref l,.int 0 0]}}):wpAny (model P w) A (pyIter (.ref l)) Q E s:=by cases b with|false=>exact E2 hl q|true=>exact H_ hl q
end
end L2
namespace L2
open PySem PySem.Spec PyProof.Rows
instance(priority:=10000)keyBEq:BEq (Sum Int Str):=⟨λa b=>decide (a=b)⟩
instance(priority:=10000)keyLaw:LawfulBEq (Sum Int Str)where
 eq_of_beq:=λh=>i_ h
 rfl:=il rfl
def dd{a:Type}[BEq a](c:List a):List a:=c.foldl step_dedup []
def zD(a:List c)(d:c):(List.range a.length).map (λi=>a.getD i d)=a:=by refine List.ext_getElem (by simp) λi h1 h2=>?_;simp[List.getD,fx h2]
def GN[BEq c](a:List c)(d:c):tW (λi=>a.getD i d) a.length=dd a:=by unfold tW dd;rw[zD]
section
variable{X:Cx}
def GX(r:aY (kV k) v):mZ k v=true/\v.scannable=true:=by cases k with|inl i=>obtain⟨t,rfl⟩:=r;exact⟨vG i t,rfl⟩|inr x=>obtain⟨t,rfl⟩:=r;exact⟨vF x t,rfl⟩
end
theorem qd[BEq c]:∀(d:List c)(a:List c),(d.foldl step_dedup a).length<=a.length+d.length
 |[],a=>eN _|k::r,a=>by
  have:=qd r (step_dedup a k);have h2:(step_dedup a k).length<=a.length+1:=by
   unfold step_dedup
   split
   ·exact ov _
   ·rw[ga];exact eN _
  rw[th,kl];lia
theorem yQ[DecidableEq d][BEq d][LawfulBEq d]:∀(f c:List d),c.Nodup->((f.foldl step_dedup c).length=c.length+f.length↔(c++f).Nodup)
 |[],c,h=>by simp[h]|k::r,c,h=>by
  rw[th]
  by_cases e:c.any (·==k)=true
  ·have g:step_dedup c k=c:=by unfold step_dedup;rw[gn e]
   have hm:k∈c:=by obtain⟨x,j,q⟩:=Nc.mp e;rw[<-eq_of_beq q];exact j
   rw[g]
   constructor
   ·intro q;have:=qd r c;rw[kl]at q;lia
   ·intro q;rw[n7]at q;exact absurd rfl (q.2.2 k hm k (hF))
  ·have g:step_dedup c k=c++[k]:=by unfold step_dedup;rw[ge e]
   have hm:k∉c:=λl=>e (Nc.mpr ⟨k,l,sm k⟩);rw[g];have i:=yQ r (c++[k]) (by rw[n7];exact⟨h,by simp,λa m b n q=>hm (by rw[List.mem_singleton.mp n]at q;exact q▸m)⟩)
   rw[u_]at i;rw[show c++k::r=c++([k]++r)by rfl,<-i,ga,kl,List.length_singleton]
   constructor<;>intro q<;>lia
def JR[DecidableEq c][BEq c][LawfulBEq c](a:List c):(dd a).length=a.length↔a.Nodup:=by have:=yQ a [] J_;simp at this;unfold dd;exact this
end L2
namespace L2
open PySem
def CJ(t:SetTable)(n:Nat):(t.orStandIn n).led=t.led/\(t.plain=false->(t.orStandIn n).plain=false):=by
 unfold SetTable.orStandIn
 split
 ·exact⟨rfl,id⟩
 ·exact⟨rfl,λ_=>rfl⟩
def Ij(t:SetTable)(a:Array (Int×Value))(h:Int)(x:Value):(layNew t a h x).2.1.led=t.led/\(t.plain=false->(layNew t a h x).2.1.plain=false):=by
 unfold layNew
 split
 ·rename_i sl wd e;exact CJ (t.put sl).1 _
 ·exact⟨rfl,λ_=>rfl⟩
def CK(t:SetTable)(a:Array (Int×Value))(n:Nat):(relayAll t a n).2.1.led=t.led/\(t.plain=false->(relayAll t a n).2.1.plain=false):=by
 unfold relayAll
 split
 ·rename_i b d e;have c:b.led=t.led/\b.plain=t.plain:=by unfold SetTable.relaid SetTable.laid at e;cases hc:SetTable.layClean (SetTable.sizeAbove n-1) (a.map (·.1))with|none=>rw[hc]at e;cases e|some ow=>rw[hc]at e;cases e;exact⟨rfl,rfl⟩
  dsimp only
  split
  ·exact⟨c.1,λh=>c.2.trans h⟩
  ·exact⟨rfl,λ_=>rfl⟩
 ·exact⟨rfl,λ_=>rfl⟩
def t9(h:l[i]?=some x):(x::l.eraseIdx i).Perm l:=by
 have a:=(d_.mp h).1;have b:=(d_.mp h).2;have e:l=l.take i++x::l.drop (i+1):=by rw[<-b,List.getElem_cons_drop,r_]
 rw[List.eraseIdx_eq_take_drop_succ];refine List.Perm.trans ?_ (NX e.symm);exact List.perm_middle.symm
def vq(next:Nat->Nat)(c:Array d):(pickOrder next c).toList.Perm c.toList:=by
 have go:∀(a k:Nat)(left:List d)(out:Array d),left.length<=a->(pickOrder.go next a k left out).toList.Perm (out.toList++left):=by
  intro a
  induction a with|zero=>intro k left out h;have:left=[]:=oi.mp (by lia);subst this;unfold pickOrder.go;rw[qr]|succ a b=>intro k left out h;unfold pickOrder.go;cases hl:left[next k%left.length]?with
 |none=>
    have hn:left=[]:=by cases left with|nil=>rfl|cons y e=>have:=C1.mp hl;have:=Nat.mod_lt (next k) (show 0<(y::e).length from n0 _);lia
    subst hn;rw[qr]|some x=>have f:=(d_.mp hl).1;have g:=(d_.mp hl).2;dsimp only;refine(b _ _ _ (by rw[List.length_eraseIdx];split<;>lia)).trans ?_;rw[NM,u_];refine List.Perm.append_left _ ?_;show(x::left.eraseIdx (next k%left.length)).Perm left;exact t9 hl
 have:=go c.size 0 c.toList #[] (by simp);unfold pickOrder;simpa using this
end L2
namespace L2
open PySem
def gW:Slot "set_iterator" "__next__" "set_iterator.__next__":=.of (owner:="set_iterator") (n:="__next__") (by rw[Ni,Ms];kernel_rfl) (by decide+kernel) (by decide+kernel) (by decide+kernel) (by first|exact .inl (by decide+kernel)|exact .inr (by decide+kernel)) (by rw[Nt];kernel_rfl)
def rN:Slot "set_iterator" "__iter__" "set_iterator.__iter__":=.of (owner:="set_iterator") (n:="__iter__") (by rw[Ni,Ms];kernel_rfl) (by decide+kernel) (by decide+kernel) (by decide+kernel) (by first|exact .inl (by decide+kernel)|exact .inr (by decide+kernel)) (by rw[Nt];kernel_rfl)
def xD:Manifest.owners.lookup (String.ofList ['r','o','t','a','r','e','t','i','_','t','e','s'].reverse)=some Manifest.sig_set_iterator:=by kernel_rfl
def kF(a:Value):argsOk "set_iterator.__next__" ⟨[a],[]⟩:=by unfold argsOk;rw[signature?_of (id:="set_iterator.__next__") (n:=['_','_','t','x','e','n','_','_']) (o:=['r','o','t','a','r','e','t','i','_','t','e','s']) (by kernel_rfl) xD];kernel_rfl
def nV(a:Value):argsOk "set_iterator.__iter__" ⟨[a],[]⟩:=by unfold argsOk;rw[signature?_of (id:="set_iterator.__iter__") (n:=['_','_','r','e','t','i','_','_']) (o:=['r','o','t','a','r','e','t','i','_','t','e','s']) (by kernel_rfl) xD];kernel_rfl
def jC:entryFor table "set_iterator.__next__"=some Builtin.«set_iterator.__next__»:=entryFor_of_tree (by kernel_rfl)
def mD:entryFor table "set_iterator.__iter__"=some Builtin.«dict_keyiterator.__iter__»:=entryFor_alias (id':="dict_keyiterator.__iter__") (by kernel_rfl) rfl (by decide+kernel) (by kernel_rfl)
def sB:entryFor table "set.__iter__"=some Builtin.«frozenset.__iter__»:=entryFor_alias (id':="frozenset.__iter__") (by kernel_rfl) rfl (by decide+kernel) (by kernel_rfl)
abbrev ia(first:Value)(i:Nat)(a:Addr)(n c:Nat):Obj:={cls:=.type "set_iterator",dict:=none,data:=.fields #[first,.int i 0,.ref a,.int n 0,.int c 0],slots:=#[]}
abbrev kX(a:N5):Obj:={cls:=.type "tuple",dict:=none,data:=.seq a.toArray}
structure fI(h:Heap)(a:Addr)(es:Array (Int×Value))(ep:Nat)(t:SetTable):Prop where
 ob:∃o,h.get? a=some o/\o.cls=.type "set"/\o.data=.set es ep t
 fits:t.fits es.size=true
def fI.keep(x:fI h a c d t)(k:∀o,h.get? a=some o->h'.get? a=some o):fI h' a c d t:=⟨let⟨o,e,r⟩:=x.ob;⟨o,k o e,r⟩,x.fits⟩
def fI.ty{s:Shared}{a:Addr}{d:Array (Int×Value)}{f:Nat}{t:SetTable}(x:fI s.heap a d f t):s.TypeIs (.ref a) "set":=let⟨o,e,c,_⟩:=x.ob;⟨o,e,c⟩
section
variable{prog:N6}{w:World}{A:Around}{E:N2}{s:Shared}
theorem ua:∀(n:Nat)(a:List e)(s:Shared)(Q:List e->Shared->Prop),a.length<=n->(∀c d,c.Perm a->Q c {s with drawn:=d})->wpAny (model prog w) A (drawOrder n a) Q E s
 |0,a,s,Q,hl,h=>by have:a=[]:=oi.mp (by lia);subst this;unfold drawOrder;exact eH (h [] s.drawn (Nu _))|n+1,[],s,Q,hl,h=>by unfold drawOrder;exact eH (h [] s.drawn (Nu _))|n+1,x::r,s,Q,hl,h=>by
  unfold drawOrder;refine a_ (m:=choose .order (x::r).length) (λΓ p f=>?_);unfold choose;rw[Sem.wp_choose];refine⟨Nat.succ_ne_zero _,?_⟩;have hi:w.draws .order (s.drawn.get .order)%(x::r).length<(x::r).length:=Nat.mod_lt _ (n0 _);have b:wpAny (model prog w) A (match(x::r)[w.draws .order (s.drawn.get .order)%(x::r).length]?with|some y=>do return y::(<-drawOrder n ((x::r).eraseIdx (w.draws .order (s.drawn.get .order)%(x::r).length)))|none=>unsupported "internal:drawOrder") Q E {s with drawn:=s.drawn.bump .order}:=by generalize w.draws .order (s.drawn.get .order)%(x::r).length=i at hi⊢;rw[fx hi];refine a_ (ua n _ _ _ (by rw[List.length_eraseIdx,gn hi];lia) λc d g=>?_);exact eH (h _ _ ((List.Perm.cons _ g).trans (t9 (fx hi))))
  exact b
set_option maxHeartbeats 4000000 in
def EC{a:Addr}{c:Array (Int×Value)}{h:Nat}{t:SetTable}{Q:N2}(e:fI s.heap a c h t)(hn:c.size<=sizeLine)(h1:(!w.params.followText "set-order"&&(!t.plain&&decide (c.size>1)))=false->Q (.ref s.heap.objs.size) {s with heap:=s.heap.push (ia (.int 0 0) 0 a c.size h)})(h2:(!w.params.followText "set-order"&&(!t.plain&&decide (c.size>1)))=true->∀(d:N_)(f:Drawn),d.Perm (List.range c.size)->Q (.ref (s.heap.objs.size+1)) {s with heap:=(s.heap.push (kX (d.map λ(i:Nat)=>Value.int (i:Int) 0))).push (ia (.ref s.heap.objs.size) 0 a c.size h),drawn:=f}):wpAny (model prog w) A (pyIter (.ref a)) Q E s:=by obtain⟨o,b,hc,hd⟩:=e.ob;have g:=e.fits;refine NF e.ty F.slot_set_iter (m3 F.slot_set_iter e.ty sB ?_ (F.args_set_iter_1 _));unfold Builtin.«frozenset.__iter__»;refine a_ (m:=Builtin.Frozenset.slot0 "__iter__" _) (a_ (m:=slotArgs "__iter__" 0 _) (eH (eH ?_)));refine a_ (m:=Builtin.Frozenset.sizeOf a) (a_ (MJ b hd g (eH ?_)));refine a_ (m:=setDrawn a) (a_ (yl b hd g (a_ (a_ (z_ (eH ?_))))));refine eH ?_;dsimp only;show wpAny _ _ (if(!w.params.followText "set-order"&&(!t.plain&&decide (c.size>1)))=true then _ else _) _ _ s;cases hc:(!w.params.followText "set-order"&&(!t.plain&&decide (c.size>1)))with|false=>rw[ge hA];refine a_ (eH ?_);refine a_ (wpAny_setEpoch_of b hd g ?_);refine a_ (np (eH ⟨_,rfl,"set_iterator",_,⟨_,fy _ rfl,rfl⟩,gW.lookup,?_⟩));exact h1 hc|true=>
  rw[gn rfl];refine a_ (ua c.size (List.range c.size) s _ (by rw[md];exact eN _) λd f k=>?_);have hl:d.length=c.size:=by rw[k.length_eq,md]
  refine a_ (np ?_ (by show(d.map λ(i:Nat)=>rawInt i).toArray.size<=sizeLine;rw[hE,b_,hl];exact hn));have j:(s.heap.push (kX (d.map λ(i:Nat)=>Value.int (i:Int) 0))).get? a=some o:=c_ _ b;refine a_ (wpAny_setEpoch_of (s:={s with heap:=s.heap.push (kX (d.map λ(i:Nat)=>Value.int (i:Int) 0)),drawn:=f}) j hd g ?_);refine a_ (np (eH ⟨_,rfl,"set_iterator",_,⟨_,fy _ rfl,rfl⟩,gW.lookup,?_⟩));have:=h2 hc d f k;rw[show s.heap.objs.size+1=(s.heap.push (kX (d.map λ(i:Nat)=>Value.int (i:Int) 0))).objs.size from(ni ..).symm]at this;exact this
def BV{I a:Addr}{d:Array (Int×Value)}{c i slot nx:Nat}{t:SetTable}{x:Value}{Q:Option Value->Shared->Prop}(e:s.heap.get? I=some (ia (.int slot 0) i a d.size c))(f:fI s.heap a d c t)(hn:∀(A:Around)(g:Option (Value×Nat)->Shared->Prop)(E:N2),g (some (x,nx)) s->wpAny (model prog w) A (setNext a slot i c) g E s)(h:∀h',h'.get? I=some (ia (.int nx 0) (i+1) a d.size c)->Heap.SameBut I s.heap h'->Q (some x) {s with heap:=h'}):wpAny (model prog w) A (pyNext (.ref I)) Q E s:=by obtain⟨o,j,hc,hd⟩:=f.ob;have ty:s.TypeIs (.ref I) "set_iterator":=⟨_,e,rfl⟩;unfold pyNext;refine a_ (MY (nk (name:=Str.ofString "__next__") ty gW (m3 gW ty jC ?_ (kF _))));unfold Builtin.«set_iterator.__next__»;refine a_ (m:=slotArgs "__next__" 0 _) (eH ?_);refine a_ (wpAny_fieldsOf e rfl ?_);show wpAny _ _ (setEntries a>>=_) _ _ s;refine a_ (MJ j hd f.fits ?_);rw[ge (by simp)];refine a_ (m:=setNext a slot i c) (hn _ _ _ ?_);refine a_ (op e (by simp) λh1 k b1=>?_);refine a_ (op (s:={s with heap:=h1}) k (by simp) λh2 l b2=>?_);refine eH ⟨_,rfl,eH (h h2 ?_ (b1.trans b2))⟩;rw[l];rfl
def zO{I T a:Addr}{c:Array (Int×Value)}{d i:Nat}{e:N_}{j:Nat}{t:SetTable}{x:Int×Value}{Q:Option Value->Shared->Prop}(f:s.heap.get? I=some (ia (.ref T) i a c.size d))(g:fI s.heap a c d t)(n:s.heap.get? T=some (kX (e.map λ(i:Nat)=>Value.int (i:Int) 0)))(hj:e[i]?=some j)(p:c[j]?=some x)(r:∀h',h'.get? I=some (ia (.ref T) (i+1) a c.size d)->Heap.SameBut I s.heap h'->Q (some x.2) {s with heap:=h'}):wpAny (model prog w) A (pyNext (.ref I)) Q E s:=by
 obtain⟨o,k,hc,hd⟩:=g.ob;have ty:s.TypeIs (.ref I) "set_iterator":=⟨_,f,rfl⟩;unfold pyNext;refine a_ (MY (nk (name:=Str.ofString "__next__") ty gW (m3 gW ty jC ?_ (kF _))));unfold Builtin.«set_iterator.__next__»;refine a_ (m:=slotArgs "__next__" 0 _) (eH ?_);refine a_ (wpAny_fieldsOf f rfl ?_);show wpAny _ _ (setEntries a>>=_) _ _ s;refine a_ (MJ k hd g.fits ?_);rw[ge (by simp)];show wpAny _ _ (seqItems? (.ref T)>>=_) _ _ s;refine a_ (qc n rfl ?_);have b:(e.map λ(i:Nat)=>Value.int (i:Int) 0).toArray[(i:Int).toNat]?=some (.int (j:Nat) 0):=by rw[Mu,f_,kt,hj];rfl
 show wpAny _ _ (match(e.map λ(i:Nat)=>Value.int (i:Int) 0).toArray[(i:Int).toNat]?with|some (.int h _)=>_|some _=>_|none=>_) _ _ s;rw[b];refine a_ (m:=setNextDrawn a j d) ?_;unfold setNextDrawn;refine a_ (yl k hd g.fits ?_);dsimp only;rw[ge (by simp)];rw[p];refine eH ?_;refine a_ (op f (by simp) λh1 q b1=>?_);refine eH ⟨_,rfl,eH (r h1 ?_ b1)⟩;rw[q];rfl
end
end L2
namespace L2
open PySem
def f9(a:Array Nat):Prop:=∀i j:Nat,i<j->j<a.size->a.getD i 0<a.getD j 0
def ES{a:Array Nat}{i:Nat}(h:i<a.size)(d:Nat):a.getD i d=a.getD i 0:=by simp[Array.getD,h]
def f9.le(r:f9 a)(h:i<=j)(hj:j<a.size):a.getD i 0<=a.getD j 0:=by
 rcases Ng i j with q|q
 ·exact rm (r i j q hj)
 ·have:i=j:=by lia
  rw[this];exact eN _
theorem ul{a:Array Nat}(r:f9 a)(j:Nat):∀(fuel lo hi:Nat),hi-lo<=fuel->lo<=hi->hi<=a.size->(∀k,k<lo->a.getD k 0<j)->(∀k,hi<=k->k<a.size->¬a.getD k 0<j)->SetTable.below.go a j fuel lo hi<=a.size/\(∀k,k<SetTable.below.go a j fuel lo hi->a.getD k 0<j)/\(∀k,SetTable.below.go a j fuel lo hi<=k->k<a.size->¬a.getD k 0<j)
 |0,lo,hi,g,hl,c,h1,h2=>by
  unfold SetTable.below.go;have:lo=hi:=by lia
  subst this;exact⟨c,h1,h2⟩|fuel+1,lo,hi,g,hl,c,h1,h2=>by
  unfold SetTable.below.go
  by_cases b:lo<hi
  ·rw[gn b];have hm:(lo+hi)/2<a.size:=by lia
   dsimp only;rw[ES hm j]
   by_cases d:a.getD ((lo+hi)/2) 0<j
   ·rw[gn d];exact ul r j fuel _ _ (by lia) (by lia) c (λk f=>q_ (r.le (by lia) hm) d) h2
   ·rw[ge d];exact ul r j fuel _ _ (by lia) (by lia) (by lia) h1 (λk f e q=>d (q_ (r.le f e) q))
  ·rw[ge b];have:lo=hi:=by lia
   subst this;exact⟨c,h1,h2⟩
def ql(r:f9 a)(j:Nat):SetTable.below a j<=a.size/\(∀k,k<SetTable.below a j->a.getD k 0<j)/\(∀k,SetTable.below a j<=k->k<a.size->¬a.getD k 0<j):=ul r j a.size 0 a.size (by lia) (j1 _) (eN _) (λk b=>absurd b (NU _)) (λk h1 h2=>absurd h2 (by lia))
def Du(a:Array Nat):Nat->Nat|0=>0|i+1=>a.getD i 0+1
def uk(r:f9 a):∀{i:Nat},i<=a.size->SetTable.below a (Du a i)=i
 |0,_=>by
  obtain⟨h1,h2,h3⟩:=ql r 0;rcases Nat.eq_zero_or_pos (SetTable.below a 0)with q|q
  ·exact q
  ·exact absurd (h2 0 q) (NU _)|i+1,hi=>by
  obtain⟨h1,h2,h3⟩:=ql r (a.getD i 0+1);show SetTable.below a (a.getD i 0+1)=i+1;rcases Nat.lt_trichotomy (SetTable.below a (a.getD i 0+1)) (i+1)with q|q|q
  ·exact absurd (rk _) (h3 i (by lia) (by lia))
  ·exact q
  ·have:=h2 (i+1) q;have:=r i (i+1) (rk _) (by lia);lia
def f9.few{a:Array Nat}(h:a.size<=1):f9 a:=λi j h1 h2=>by lia
section
variable{prog:N6}{w:World}{A:Around}{E:N2}{s:Shared}
def nX(c:fI s.heap a g d t)(f:w.params.followText "set-order"=true)(h:Q (((pickOrder (w.params.setOrder a d) g)[i]?).map λe=>(e.2,slot)) s):wpAny (model prog w) A (setNext a slot i d) Q E s:=by obtain⟨o,b,hc,hd⟩:=c.ob;unfold setNext;refine a_ (yl b hd c.fits ?_);dsimp only;refine a_ (m:=setsByText) (a_ (z_ (eH ?_)));show wpAny _ _ (if(w.params.followText "set-order")=true then _ else _) _ _ s;rw[gn f,ge (by simp)];refine a_ (m:=setWalk a) ?_;unfold setWalk;refine a_ (yl b hd c.fits ?_);dsimp only;refine a_ (m:=setsByText) (a_ (z_ (eH ?_)));show wpAny _ _ (if(w.params.followText "set-order")=true then _ else _) _ _ s;rw[gn f];refine a_ (z_ (eH ?_));exact eH h
def nY(d:fI s.heap a c e t)(f:w.params.followText "set-order"=false)(g:(!t.plain&&decide (c.size>1))=false)(hl:t.led=true)(h:Q (match c[SetTable.below t.place slot]?,t.place[SetTable.below t.place slot]?with|some (_,x),some j=>some (x,j+1)|_,_=>none) s):wpAny (model prog w) A (setNext a slot i e) Q E s:=by obtain⟨o,b,hc,hd⟩:=d.ob;unfold setNext;refine a_ (yl b hd d.fits ?_);dsimp only;refine a_ (m:=setsByText) (a_ (z_ (eH ?_)));show wpAny _ _ (if(w.params.followText "set-order")=true then _ else _) _ _ s;rw[ge (by rw[f];exact hA)];show wpAny _ _ (if(!t.plain&&decide (c.size>1))=true then _ else _) _ _ s;rw[ge (by rw[g];exact hA)];refine a_ ?_;show wpAny _ _ (if(!t.led&&!c.isEmpty)=true then _ else _) _ _ s;rw[ge (by rw[hl];simp)];exact eH (eH h)
def yp(hh:A.handled=none)(f:s.heap.get? I=some (ia first i a r.size g))(l:fI s.heap a r g t)(hn:(∃slot:Nat,first=.int slot 0/\∀(A:Around)(n:Option (Value×Nat)->Shared->Prop)(E:N2),n none s->wpAny (model prog w) A (setNext a slot i g) n E s)\/∃(T:Addr)(d:N_),first=.ref T/\s.heap.get? T=some (kX (d.map λ(i:Nat)=>Value.int (i:Int) 0))/\d[i]?=none)(u:∀h',(∀b o,b≠I->s.heap.get? b=some o->h'.get? b=some o)->Q none {s with heap:=h'}):wpAny (model prog w) A (pyNext (.ref I)) Q E s:=by
 obtain⟨o,q,hc,hd⟩:=l.ob;have ty:s.TypeIs (.ref I) "set_iterator":=⟨_,f,rfl⟩;have fin:∀(R:Fin->Shared->Prop)(h1:Heap),(∀b o,b≠I->s.heap.get? b=some o->h1.get? b=some o)->wpAny (model prog w) A.in1 (newExc (.type "StopIteration") []>>=λe=>raiseNew e:Sem Fin) R (λe v=>wpAny (model prog w) A (do if<-isInstance e (.type "StopIteration")then pure none else throw e) Q E v) {s with heap:=h1}:=by intro R h1 x;refine a_ ?_;simp only[newExc,newTuple];refine a_ (np ?_ (by size_fits));refine a_ (m:=firstArgMember _ _) (wpAny_of_eq (a:=Value.none) (by first|rfl|(simp only[firstArgMember];rfl)) ?_);refine np ?_ (by size_fits);simp only[raiseNew];refine a_ (wpAny_handled ?_);rw[show A.in1.handled=none from hh];refine a_ (eH (wpAny_throw ?_));refine a_ (Mv (T:="StopIteration") (b:=true) ⟨_,fy _ rfl,rfl⟩ isSubtype_stop ?_);exact eH (u _ λb o c e=>c_ _ (c_ _ (x b o c e)))
 unfold pyNext;refine a_ (MY (nk (name:=Str.ofString "__next__") ty gW (m3 gW ty jC ?_ (kF _))));unfold Builtin.«set_iterator.__next__»;refine a_ (m:=slotArgs "__next__" 0 _) (eH ?_);refine a_ (wpAny_fieldsOf f rfl ?_);show wpAny _ _ (setEntries a>>=_) _ _ s;refine a_ (MJ q hd l.fits ?_);rw[ge (by simp)];rcases hn with⟨slot,rfl,hn⟩|⟨T,d,rfl,y,hj⟩
 ·refine a_ (m:=setNext a slot i g) (hn _ _ _ ?_);refine a_ (op f (by simp) λh1 p b1=>?_);exact fin _ h1 λb o c e=>(b1.2 b c).trans e
 ·show wpAny _ _ (seqItems? (.ref T)>>=_) _ _ s;refine a_ (qc y rfl ?_);have h:(d.map λ(i:Nat)=>Value.int (i:Int) 0).toArray[(i:Int).toNat]?=none:=by rw[Mu,f_,kt,hj];rfl
  show wpAny _ _ (match(d.map λ(i:Nat)=>Value.int (i:Int) 0).toArray[(i:Int).toNat]?with|some (.int j _)=>_|some _=>_|none=>_) _ _ s;rw[h];refine a_ (op f (by simp) λh1 p b1=>?_);refine a_ (op (s:={s with heap:=h1}) p (by simp) λh2 z b2=>?_);exact fin _ h2 λb o c e=>(b2.2 b c).trans ((b1.2 b c).trans e)
def CD(hh:A.handled=none)(L:fI s.heap a c g t)(hn:c.size<=sizeLine)(hl:w.params.followText "set-order"=false->t.led=true)(hr:t.plain=true->f9 t.place)(h:∀(I:Addr)(h':Heap)(S:Drawn)(f:List (Int×Value))(fp:Oa)(St:Nat->Heap->Prop),f.Perm c.toList->(∀b o,s.heap.get? b=some o->h'.get? b=some o)->s.heap.objs.size<=I->I<h'.objs.size->(∀b∈fp,b=a\/s.heap.objs.size<=b)->Walks prog w A I fp [I] c.size (λi v=>∃x,f[i]?=some x/\v=x.2) St->St 0 h'->Q (.ref I) {s with heap:=h',drawn:=S}):wpAny (model prog w) A (pyIter (.ref a)) Q E s:=by
 have ha:a<s.heap.objs.size:=let⟨o,e,_⟩:=L.ob;gV e;have T:t.place.size=c.size:=by have:=L.fits;unfold SetTable.fits at this;simp only[k4,beq_iff_eq]at this;exact this.1
 refine EC L hn (λhc=>?_) (λhc u S K=>?_)
 ·--by slots
  have M:∀b o,s.heap.get? b=some o->(s.heap.push (ia (.int 0 0) 0 a c.size g)).get? b=some o:=λb o e=>c_ _ e;have hg:(s.heap.push (ia (.int 0 0) 0 a c.size g)).get? s.heap.objs.size=some (ia (.int 0 0) 0 a c.size g):=fy _ rfl;have U:s.heap.objs.size<(s.heap.push (ia (.int 0 0) 0 a c.size g)).objs.size:=by rw[ni];exact rk _
  have H:a≠s.heap.objs.size:=h_ ha;have C:∀(first:Nat->Nat)(f:List (Int×Value)),first 0=0->f.Perm c.toList->(∀(i:Nat)(d:Shared)(x:Int×Value),f[i]?=some x->fI d.heap a c g t->∀(A:Around)(D:Option (Value×Nat)->Shared->Prop)(E:N2),D (some (x.2,first (i+1))) d->wpAny (model prog w) A (setNext a (first i) i g) D E d)->(∀(d:Shared),fI d.heap a c g t->∀(A:Around)(D:Option (Value×Nat)->Shared->Prop)(E:N2),D none d->wpAny (model prog w) A (setNext a (first c.size) c.size g) D E d)->Q (.ref s.heap.objs.size) {s with heap:=s.heap.push (ia (.int 0 0) 0 a c.size g)}:=by
   intro first f f0 K hi hd;have V:f.length=c.size:=by rw[K.length_eq,j2]
   refine h s.heap.objs.size _ s.drawn f [s.heap.objs.size,a] (λi h'=>h'.get? s.heap.objs.size=some (ia (.int (first i) 0) i a c.size g)/\fI h' a c g t) K M (eN _) U ?_ ?_ ?_
   ·intro b m;simp only[ot,m_,xn]at m;rcases m with rfl|rfl
    ·exact .inr (eN _)
    ·exact .inl rfl
   ·refine{sub:=λb m=>?_,frame:=λi h1 h2 st k=>?_,item:=λi d N O W st q=>?_,done:=λd N O st q=>?_,self:=λi d N O st q=>?_}
    ·rw[List.mem_singleton.mp m];exact hF
    ·exact⟨k _ hF _ st.1,st.2.keep λo e=>k _ (g_ _ hF) _ e⟩
    ·obtain⟨x,p⟩:∃x,f[i]?=some x:=⟨f[i]'(by lia),fx (by lia)⟩;refine BV (nx:=first (i+1)) st.1 st.2 (hi i d x p st.2) λh2 X b2=>?_;exact q x.2 h2 d.toks ⟨x,p,rfl⟩ ⟨X,st.2.keep λo e=>(b2.2 _ H).trans e⟩ λb o m e=>(b2.2 b λz=>m (by rw[z];exact List.mem_singleton.mpr rfl)).trans e
    ·refine yp hh st.1 st.2 (.inl ⟨_,rfl,hd d st.2⟩) λh2 Y=>?_;exact q h2 d.toks λb o m e=>Y b o (λz=>m (by rw[z];exact List.mem_singleton.mpr rfl)) e
    ·have ty:d.TypeIs (.ref s.heap.objs.size) "set_iterator":=⟨_,st.1,rfl⟩;refine NF ty rN (m3 rN ty mD ?_ (nV _));exact eH ⟨_,rfl,"set_iterator",_,ty,gW.lookup,q⟩
   ·rw[f0];exact⟨hg,L.keep λo e=>M _ _ e⟩
  cases J:w.params.followText "set-order"with
 |true=>
   have V:(pickOrder (w.params.setOrder a g) c).toList.length=c.size:=by rw[(vq _ _).length_eq,j2]
   refine C (λ_=>0) (pickOrder (w.params.setOrder a g) c).toList rfl (vq _ _) (λi d x p B A D E q=>?_) (λd B A D E q=>?_)
   ·refine nX B J ?_;have p:(pickOrder (w.params.setOrder a g) c)[i]?=some x:=by rw[<-sg];exact p
    rw[p];exact q
   ·refine nX B J ?_;have p:(pickOrder (w.params.setOrder a g) c)[c.size]?=none:=by rw[<-sg];exact C1.mpr (by lia)
    rw[p];exact q|false=>
   have F:(!t.plain&&decide (c.size>1))=false:=by rw[J]at hc;simpa using hc
   have rs:f9 t.place:=by cases G:t.plain with|true=>exact hr G|false=>rw[G]at F;refine f9.few ?_;rw[T];simpa using F
   refine C (Du t.place) c.toList rfl (Nu _) (λi d x p B A D E q=>?_) (λd B A D E q=>?_)
   ·have p:c[i]?=some x:=by rw[<-sg];exact p
    have hi:i<c.size:=(Array.getElem?_eq_some_iff.mp p).1;refine nY B J F (hl J) ?_;rw[uk rs (by lia),p];have G:t.place[i]?=some (t.place.getD i 0):=by rw[r4 (by lia)];simp[Array.getD,show i<t.place.size by lia]
    rw[G];exact q
   ·refine nY B J F (hl J) ?_;rw[uk rs (by lia)];rw[show c[c.size]?=none from Array.getElem?_eq_none (eN _)];exact q
 ·--drawn
  have Z:(s.heap.push (kX (u.map λ(i:Nat)=>Value.int (i:Int) 0))).get? s.heap.objs.size=some (kX (u.map λ(i:Nat)=>Value.int (i:Int) 0)):=fy _ rfl;have hz:(s.heap.push (kX (u.map λ(i:Nat)=>Value.int (i:Int) 0))).objs.size=s.heap.objs.size+1:=ni ..;have M:∀b o,s.heap.get? b=some o->((s.heap.push (kX (u.map λ(i:Nat)=>Value.int (i:Int) 0))).push (ia (.ref s.heap.objs.size) 0 a c.size g)).get? b=some o:=λb o e=>c_ _ (c_ _ e);have hg:((s.heap.push (kX (u.map λ(i:Nat)=>Value.int (i:Int) 0))).push (ia (.ref s.heap.objs.size) 0 a c.size g)).get? (s.heap.objs.size+1)=some (ia (.ref s.heap.objs.size) 0 a c.size g):=by rw[<-hz];exact fy _ rfl
  have ad:u.length=c.size:=by rw[K.length_eq,md]
  have P:∀(i j:Nat),u[i]?=some j->j<c.size:=λi j q=>by have:=K.mem_iff.mp (e_ q);exact n_.mp this
  refine h (s.heap.objs.size+1) _ S (u.filterMap λj=>c[j]?) [s.heap.objs.size+1,a,s.heap.objs.size] (λi h'=>h'.get? (s.heap.objs.size+1)=some (ia (.ref s.heap.objs.size) i a c.size g)/\fI h' a c g t/\h'.get? s.heap.objs.size=some (kX (u.map λ(i:Nat)=>Value.int (i:Int) 0))) ?_ M (ov _) ?_ ?_ ?_ ?_
  ·have:=K.filterMap (λj=>c[j]?);rw[filterMap_getElem?_range]at this;exact this
  ·rw[ni,hz];exact rk _
  ·intro b m;simp only[ot,m_,xn]at m;rcases m with rfl|rfl|rfl
   ·exact .inr (ov _)
   ·exact .inl rfl
   ·exact .inr (eN _)
  ·have H:a≠s.heap.objs.size+1:=h_ (t_ ha);have R:∀(i:Nat)(j:Nat)(x:Int×Value),u[i]?=some j->c[j]?=some x->(u.filterMap λj=>c[j]?)[i]?=some x:=by
    have gen:∀(l:N_),(∀j∈l,j<c.size)->∀(i j:Nat)(x:Int×Value),l[i]?=some j->c[j]?=some x->(l.filterMap λj=>c[j]?)[i]?=some x:=by
     intro l
     induction l with|nil=>intro _ i j x hi _;simp at hi|cons y r ih=>intro m i j x hi p;have hy:c[y]?=some (c[y]'(m y hF)):=r4 _;rw[List.filterMap_cons_some hy];cases i with|zero=>simp only[List.getElem?_cons_zero,MS]at hi⊢;subst hi;rw[hy]at p;exact ir p|succ i=>simp only[List.getElem?_cons_succ]at hi⊢;exact ih (λj hj=>m j (g_ _ hj)) i j x hi p
    intro i j x h1 h2;refine gen u (λj hj=>?_) i j x h1 h2;obtain⟨n,hn⟩:=hQ.mp hj;exact P n j hn
   refine{sub:=λb m=>?_,frame:=λi h1 h2 st k=>?_,item:=λi d N O W st q=>?_,done:=λd N O st q=>?_,self:=λi d N O st q=>?_}
   ·rw[List.mem_singleton.mp m];exact hF
   ·exact⟨k _ hF _ st.1,st.2.1.keep λo e=>k _ (g_ _ hF) _ e,k _ (g_ _ (g_ _ hF)) _ st.2.2⟩
   ·obtain⟨j,hj⟩:∃j,u[i]?=some j:=⟨u[i]'(by lia),fx (by lia)⟩;have aa:=P i j hj;have p:c[j]?=some (c[j]'aa):=r4 _;refine zO st.1 st.2.1 st.2.2 hj p λh2 X b2=>?_;exact q _ h2 d.toks ⟨_,R i j _ hj p,rfl⟩ ⟨X,st.2.1.keep λo e=>(b2.2 _ H).trans e,(b2.2 _ (h_ (rk _))).trans st.2.2⟩ λb o m e=>(b2.2 b λz=>m (by rw[z];exact List.mem_singleton.mpr rfl)).trans e
   ·refine yp hh st.1 st.2.1 (.inr ⟨_,u,rfl,st.2.2,C1.mpr (by lia)⟩) λh2 Y=>?_;exact q h2 d.toks λb o m e=>Y b o (λz=>m (by rw[z];exact List.mem_singleton.mpr rfl)) e
   ·have ty:d.TypeIs (.ref (s.heap.objs.size+1)) "set_iterator":=⟨_,st.1,rfl⟩;refine NF ty rN (m3 rN ty mD ?_ (nV _));exact eH ⟨_,rfl,"set_iterator",_,ty,gW.lookup,q⟩
  ·exact⟨hg,L.keep λo e=>M _ _ e,c_ _ Z⟩
end
end L2
namespace L2
open PySem
section
variable{prog:N6}{w:World}{A:Around}{E:N2}{s:Shared}
def EL(ty:s.TypeIs (.ref a) "set")(h:Q false s):wpAny (model prog w) A (Builtin.List.listLengthHint (.ref a)) Q E s:=by
 unfold Builtin.List.listLengthHint;refine a_ (Nh ty F.slot_set_len.lookup ?_);generalize c:("set.__len__":String)=nm
 wp_delta
 rw[show splitId nm=some ("set","__len__")from by subst c;decide+kernel];subst c;refine a_ (Mv (T:="set") (b:=true) ty (by rw[Nt];kernel_rfl) ?_);refine qq (λz=>absurd z (by decide)) (λ_=>?_);refine qq (λ_=>?_) (λz=>absurd (by decide+kernel) z);exact a_ (MN ty (eH h))
def yT(hh:A.handled=none)(X:fI s.heap a l ep t)(hn:l.size<=sizeLine)(hl:w.params.followText "set-order"=false->t.led=true)(p:t.plain=true->f9 t.place)(h:∀(h':Heap)(d':Drawn)(tk:Nat)(Z:N5),Z.Perm (l.toList.map (·.2))->(∀b o,s.heap.get? b=some o->h'.get? b=some o)->s.heap.objs.size<=h'.objs.size->R Z {s with heap:=h',drawn:=d',toks:=tk}):wpAny (model prog w) A (collect (.ref a)) R E s:=by
 have M:a<s.heap.objs.size:=let⟨o,e,_⟩:=X.ob;gV e;unfold collect;refine a_ (wpAny_runValue (t6 F.entry_proto_collect ?_));rw[sD F.plain_proto_collect _];refine a_ (m:=newList []) (np ?_);refine eH ⟨x_ F.plain_list_iadd _,t6 F.entry_list_iadd ?_⟩;rw[sD F.plain_list_iadd _];have V:(s.heap.push {cls:=.type "list",data:=.seq ([]:N5).toArray}).get? s.heap.objs.size=some {cls:=.type "list",data:=.seq #[]}:=fy _ rfl;have g:fI (s.heap.push {cls:=.type "list",data:=.seq ([]:N5).toArray}) a l ep t:=X.keep λo e=>c_ _ e;have j:(s.heap.push {cls:=.type "list",data:=.seq ([]:N5).toArray}).objs.size=s.heap.objs.size+1:=ni ..;have N:∀b o,s.heap.get? b=some o->(s.heap.push {cls:=.type "list",data:=.seq ([]:N5).toArray}).get? b=some o:=λb o e=>c_ _ e;generalize s.heap.push {cls:=.type "list",data:=.seq ([]:N5).toArray}=h0 at V g j N⊢;show wpAny _ A.in1 (Builtin.List.listExtendWith (.ref s.heap.objs.size) (.ref a) (.ref s.heap.objs.size)) _ _ {s with heap:=h0};unfold Builtin.List.listExtendWith;refine a_ (MN (T:="set") (s:={s with heap:=h0}) g.ty ?_);have ne:Builtin.List.listSameRef (.ref s.heap.objs.size) (.ref a)=false:=by simp[Builtin.List.listSameRef,lm M]
 rw[ge (by rw[ne];decide)];refine a_ (CD (s:={s with heap:=h0}) (A:=A.in1) hh g hn hl p λI h1 n u fp St Y J hI ad y W st=>?_);refine a_ (l_ (EL (s:={s with heap:=h1,drawn:=n}) (g.keep λo e=>J _ _ e).ty ?_));have O:=J _ _ V;have aa:u.length=l.size:=by rw[Y.length_eq,j2]
 have k:∀(h2:Heap)(c:Nat),St 0 h2->(∀b o,s.heap.get? b=some o->h2.get? b=some o)->h2.get? s.heap.objs.size=some {cls:=.type "list",dict:=none,data:=.seq #[] c,slots:=#[]}->codeAny (model prog w) A (.builtin "list.extend.loop" ⟨[.ref s.heap.objs.size,.ref I,.ref s.heap.objs.size],[]⟩) (λr B=>∃v,r=.ok (.ret v)/\v=.ref s.heap.objs.size/\∃(h':Heap)(tk:Nat)(f:N9)(C:Nat),B={s with heap:=h',drawn:=n,toks:=tk}/\(∀b o,s.heap.get? b=some o->h'.get? b=some o)/\h'.get? s.heap.objs.size=some {cls:=.type "list",dict:=none,data:=.seq f C,slots:=#[]}/\f.toList.Perm (l.toList.map (·.2))) {s with heap:=h2,drawn:=n}:=by
  intro h2 c P k2 K;refine codeAny_extend_loopS W.toS hn s.heap.objs.size (λhm=>?_) _ l.size 0 _ #[] c rfl (j1 _) P K (ItemsOf.nil _) λB d C L g' it=>?_
  ·rcases y _ hm with e|e
   ·exact absurd e (lm M)
   ·have:h0.objs.size<=s.heap.objs.size:=e;rw[j]at this;exact absurd this (Nat.not_succ_le_self _)
  ·obtain⟨h3,Q,d3,t3,o3⟩:=B;obtain rfl:Q=s.gens:=L.gens;obtain rfl:d3=n:=L.drawn;obtain rfl:o3=s.os:=L.os;refine⟨_,rfl,rfl,h3,t3,d,C,rfl,λb o e=>?_,g',?_⟩
   ·refine L.heap b o (λhm=>?_) (k2 b o e);have D:b<s.heap.objs.size:=gV e;rcases ot.mp hm with z|z
    ·exact absurd z (h_ D)
    ·rw[List.mem_singleton.mp z]at D;have:h0.objs.size<=I:=hI;rw[j]at this;exact absurd (t8 D (Nat.lt_of_succ_le this)) (nn _)
   ·have e1:d.toList=u.map (·.2):=by refine sT λi=>?_;rw[f_,sg];cases q:d[i]?with|some v=>obtain⟨x,hx,rfl⟩:=it.2 i v q;rw[hx];rfl|none=>have:d.size<=i:=Array.getElem?_eq_none_iff.mp q;rw[it.1]at this;rw[lh (by lia)];rfl
    rw[e1];exact Y.map _
 refine qq (λ_=>?_) (λ_=>eH ⟨x_ F.plain_extend_loop _,wh (k h1 0 st (λb o e=>J _ _ (N _ _ e)) O) λr B p=>?_⟩)
 case refine_2=>obtain⟨v,rfl,rfl,h',tk,f,C,rfl,S,G,U⟩:=p;exact a_ (wpAny_load G (eH (h h' n tk f.toList U S (rm (gV G)))))
 refine a_ (si (a_ ?_));show wpAny _ _ (updateSeq s.heap.objs.size (·.push .none)>>=λ_=>updateSeq s.heap.objs.size (·.pop)) _ _ _;refine a_ (NT O rfl ?_);have K:=p_ (Obj.mapSeq (·.push Value.none)) O rfl;refine NT (hz:=by seq_fits) K rfl ?_;have Q:=p_ (Obj.mapSeq (·.pop)) K rfl;refine eH ⟨x_ F.plain_extend_loop _,wh (k _ _ (W.frame 0 _ _ st λb D o e=>?_) (λb o e=>?_) Q) λr B p=>?_⟩
 ·have H:b≠s.heap.objs.size:=λz=>by
   rcases y _ D with q|q
   ·exact absurd (z.symm.trans q) (lm M)
   ·have:h0.objs.size<=b:=q;rw[j,z]at this;exact absurd this (Nat.not_succ_le_self _)
  exact(ry _ _ (mu H)).trans ((ry _ _ (mu H)).trans e)
 ·have H:b≠s.heap.objs.size:=h_ (gV e);exact(ry _ _ (mu H)).trans ((ry _ _ (mu H)).trans (J _ _ (N _ _ e)))
 ·obtain⟨v,rfl,rfl,h',tk,f,C,rfl,S,G,U⟩:=p;exact a_ (wpAny_load G (eH (h h' n tk f.toList U S (rm (gV G)))))
end
end L2
namespace L2
open PySem
structure qm(led:Bool)(t:SetTable):Prop where
 led:t.led=led
 up:t.plain=true->f9 t.place
def qm.off{led:Bool}{t:SetTable}(x:qm led t):qm led {t with plain:=false}:=⟨x.led,λh=>by cases h⟩
def DW{t:SetTable}{j:Nat}(h:t.slot j=.empty\/t.slot j=.dummy):t.place[SetTable.below t.place j]?≠some j:=by intro e;unfold SetTable.slot at h;dsimp only at h;rw[gn (by rw[e];simp)]at h;rcases h with h|h<;>cases h
theorem nI:∀(fuel:Nat)(p:SetTable.Probe)(j:Nat)(d:Option Nat),(∀x,p.dummy=some x->t.slot x=.dummy)->SetTable.probe.go t l h fuel p=some (.empty j d)->t.slot j=.empty/\∀x,d=some x->t.slot x=.dummy|0,p,j,d,c,e=>by unfold SetTable.probe.go at e;cases e|fuel+1,p,j,d,c,e=>by unfold SetTable.probe.go at e;cases a:t.slot p.j with
 |empty=>rw[a]at e;injection e with e;injection e with f g;subst f;subst g;exact⟨a,c⟩|dummy=>
   rw[a]at e;refine nI fuel _ j d (λx b=>?_) e;have:(t.advance {p with dummy:=some p.j}).dummy=some p.j:=by
    unfold SetTable.advance
    split<;>rfl
   rw[this]at b;cases b;exact a|live i=>
   rw[a]at e;dsimp only at e
   split at e
   ·cases e
   ·refine nI fuel _ j d (λx b=>c x ?_) e;have:(t.advance p).dummy=p.dummy:=by
     unfold SetTable.advance
     split<;>rfl
    rw[this]at b;exact b
def Cf{t:SetTable}{h:Int}{sl:Nat}{wd:Bool}(e:t.freeSlot h=some (sl,wd)):t.place[SetTable.below t.place sl]?≠some sl:=by unfold SetTable.freeSlot at e;cases a:t.probe (λ_=>h+1) h (t.probeStart h)with|none=>rw[a]at e;cases e|some m=>rw[a]at e;cases m with|candidate _ _ _=>cases e|empty j d=>have:=nI (10*SetTable.turns t.mask) (t.probeStart h) j d (λx b=>by cases b) a;injection e with e;injection e with c f;subst c;refine DW ?_;cases d with|none=>exact .inl this.1|some x=>exact .inr (this.2 x rfl)
def gd(a:Array Nat)(i:Nat):a.getD i 0=(a.toList[i]?).getD 0:=by rw[sg,Array.getD_eq_getD_getElem?]
def zB{l:N_}(h:l.Pairwise (·<·)):f9 l.toArray:=by intro i j a hj;rw[hE]at hj;have:=List.pairwise_iff_getElem.mp h i j (by lia) hj a;rw[gd,gd];show(l[i]?).getD 0<(l[j]?).getD 0;rw[fx hj,fx (show i<l.length by lia)];exact this
def yF(c:p<=a.size):(SetTable.insertAt a p x).getD k 0=if k<p then a.getD k 0 else if k=p then x else if k<a.size+1 then a.getD (k-1) 0 else 0:=by
 have e:(SetTable.insertAt a p x).toList=a.toList.take p++x::a.toList.drop p:=by rw[SetTable.toList_insertAt]
 rw[gd,e];have hl:(a.toList.take p).length=p:=by rw[ji,j2];lia
 by_cases h1:k<p
 ·rw[gn h1,pu (by lia),List.getElem?_take,gn h1,gd]
 ·rw[ge h1,t0 (by lia),hl]
  by_cases h2:k=p
  ·rw[gn h2,h2,Nat.sub_self];rfl
  ·rw[ge h2];obtain⟨m,rfl⟩:∃m,k=p+(m+1):=⟨k-p-1,by lia⟩;rw[show p+(m+1)-p=m+1 by lia,List.getElem?_cons_succ,ND]
   by_cases h3:p+(m+1)<a.size+1
   ·rw[gn h3,gd,show p+(m+1)-1=p+m by lia]
   ·rw[ge h3,lh (by rw[j2];lia)];rfl
def EF(c:p<=a.size):(SetTable.insertAt a p x).size=a.size+1:=by rw[<-j2,(SetTable.insertAt_perm a p x).length_eq,j2,Array.size_push]
def BI{t:SetTable}{sl:Nat}(r:f9 t.place)(h:t.place[SetTable.below t.place sl]?≠some sl):f9 (t.put sl).1.place:=by
 obtain⟨b1,b2,b3⟩:=ql r sl;show f9 (SetTable.insertAt t.place (SetTable.below t.place sl) sl);generalize SetTable.below t.place sl=p at h b1 b2 b3;have b4:∀k,p<=k->k<t.place.size->sl<t.place.getD k 0:=by
  intro k c a;have d:t.place[p]?=some (t.place.getD p 0):=by rw[r4 (by lia)];simp[Array.getD,show p<t.place.size by lia]
  have e:t.place.getD p 0≠sl:=λz=>h (by rw[d,z]);have h1:=b3 p (eN _) (by lia);have h2:=r.le c a;lia
 intro i j b hj;rw[EF b1]at hj;rw[yF b1,yF b1]
 by_cases h1:j<p
 ·rw[gn (by lia),gn h1];exact r i j b (by lia)
 ·rw[ge h1]
  by_cases h2:j=p
  ·rw[gn h2,gn (by lia)];exact b2 i (by lia)
  ·rw[ge h2,gn hj]
   by_cases h3:i<p
   ·rw[gn h3];have:=b2 i h3;have:=b4 (j-1) (by lia) (by lia);lia
   ·rw[ge h3]
    by_cases h4:i=p
    ·rw[gn h4];exact b4 (j-1) (by lia) (by lia)
    ·rw[ge h4,gn (by lia)];exact r (i-1) (j-1) (by lia) (by lia)
def qm.lay{led:Bool}{t:SetTable}(x:qm led t)(c:Array (Int×Value))(h:Int)(v:Value):qm led (layNew t c h v).2.1:=by
 refine⟨(Ij t c h v).1.trans x.led,?_⟩;unfold layNew
 split
 ·rename_i sl wd e;intro a;dsimp only at a⊢;unfold SetTable.orStandIn at a⊢
  split
  ·rename_i b;rw[gn b]at a;exact BI (x.up a) (Cf e)
  ·rename_i b;rw[ge b]at a;cases a
 ·intro a;cases a
def qm.relay{led:Bool}{t:SetTable}(x:qm led t)(f:Array (Int×Value))(n:Nat):qm led (relayAll t f n).2.1:=by
 refine⟨(CK t f n).1.trans x.led,?_⟩;unfold relayAll
 split
 ·rename_i m o e;dsimp only
  split
  ·intro _;unfold SetTable.relaid SetTable.laid at e;cases hc:SetTable.layClean (SetTable.sizeAbove n-1) (f.map (·.1))with|none=>rw[hc]at e;cases e|some ow=>
    rw[hc]at e;cases e;show f9 ((((List.range (SetTable.sizeAbove n-1+1)).filterMap λj=>(ow.getD j none).map (j,·)).map (·.1)).toArray);have l:(((List.range (SetTable.sizeAbove n-1+1)).filterMap λj=>(ow.getD j none).map (j,·)).map (·.1)).Pairwise (·<·):=by rw[List.map_filterMap];refine List.Pairwise.filterMap _ (R:=(·<·)) (S:=(·<·)) ?_ List.pairwise_lt_range;intro a b g x c y d;cases i:ow.getD a none with|none=>rw[i]at c;cases c|some v=>cases k:ow.getD b none with|none=>rw[k]at d;cases d|some u=>rw[i]at c;rw[k]at d;cases c;cases d;exact g
    exact zB l
  ·intro h;cases h
 ·intro h;cases h
end L2
namespace L2
open PySem
section
variable{prog:N6}{w:World}{c:Type}[DecidableEq c](knd:PySem.KeyKind prog w c)(kOf:Value->c)
structure jy(led:Bool)(h:Heap)(a:Addr)(ks:List c):Prop where ex:∃o es ep t,h.get? a=some o/\o.ExactSet/\o.data=.set es ep t/\ElemsOf knd es.toList/\(es.toList.map λe=>kOf e.2).Perm ks/\es.size<scanBound/\t.fits es.size=true/\qm led t
variable{knd kOf}
def jy.keep(x:jy knd kOf led h a d)(k:∀o,h.get? a=some o->h'.get? a=some o):jy knd kOf led h' a d:=by obtain⟨o,b,f,t,e,r⟩:=x.ex;exact⟨o,b,f,t,k o e,r⟩
variable{A:Around}{E:N2}{s:Shared}
def Ef(f:∀k v,knd.is k v=true->kOf v=k)(d:ElemsOf knd g)(h:(g.map λe=>kOf e.2).Perm i)(k:c):k∈i↔∃e∈g,knd.is k e.2=true:=by
 rw[<-h.mem_iff,ig]
 constructor
 ·rintro⟨e,a,rfl⟩;obtain⟨⟨b,h1,_⟩,_⟩:=d e a;refine⟨e,a,?_⟩;rw[f b e.2 h1];exact h1
 ·rintro⟨e,a,h1⟩;exact⟨e,a,f k e.2 h1⟩
def sr{led:Bool}{h:Heap}{a:Addr}{o:Obj}{m d:Array (Int×Value)}{i:Nat}{t f:SetTable}{ks:List c}(n:h.get? a=some o)(j:o.ExactSet)(hd:o.data=.set m i t)(l:ElemsOf knd d.toList)(p:(d.toList.map λe=>kOf e.2).Perm ks)(r:d.size<scanBound)(u:f.fits d.size=true)(v:qm led f):(h.update a (Obj.putSet d f)).get? a=some {o with data:=.set d (i+1) f}/\jy knd kOf led (h.update a (Obj.putSet d f)) a ks:=by
 have g:(h.update a (Obj.putSet d f)).get? a=some {o with data:=.set d (i+1) f}:=by
  have q:=p_ (Obj.putSet d f) n (by rw[putSet_of d f hd];rfl)
  rwa[putSet_of d f hd]at q
 exact⟨g,_,d,i+1,f,g,j,rfl,l,p,r,u,v⟩
def Fn{led:Bool}{a:Addr}{f:List c}{k:c}{x:Value}{Q:Bool->Shared->Prop}(Z:∀k v,knd.is k v=true->kOf v=k)(i:knd.is k x=true)(y:x.scannable=true)(hS:jy knd kOf led s.heap a f)(G:f.length+1<scanBound)(h:∀h' b,Heap.SameBut a s.heap h'->jy knd kOf led h' a (if k∈f then f else f++[k])->Q b {s with heap:=h'}):wpAny (model prog w) A (setAddHashed a x (knd.hash k)) Q E s:=by
 obtain⟨o,D,ep,t,P,H,hd,m,R,hb,hf,ti⟩:=hS.ex;have hn:D.size=f.length:=by rw[<-R.length_eq,b_,j2]
 have p:=Ef Z m R;unfold setAddHashed setAddHashedIn;refine l_ (a_ (yl P hd hf ?_));dsimp only;rw[byScan_of y hb m,gn rfl];unfold setAddByScan;refine a_ (a_ (si (a_ (wpAny_setScan_of i P hd hf m ?_))));cases hr:List.findIdx? (λe=>knd.is k e.2) D.toList with|some j=>obtain⟨hj,S,_⟩:=List.findIdx?_eq_some_iff_getElem.mp hr;have B:k∈f:=(p k).mpr ⟨_,Mz hj,S⟩;refine eH (eH ?_);have q:=h s.heap false (Heap.SameBut.refl a s.heap);rw[gn B]at q;exact q hS|none=>
  have B:k∉f:=λz=>by obtain⟨e,he,h1⟩:=(p k).mp z;have:=List.findIdx?_eq_none_iff.mp hr e he;rw[h1]at this;cases this
  dsimp only;have q:∀h' b,Heap.SameBut a s.heap h'->jy knd kOf led h' a (f++[k])->Q b {s with heap:=h'}:=λh' b sb x=>h h' b sb (by rw[ge B];exact x);have F:=layNew_perm t D (knd.hash k) x;have I:=layNew_fits t D (knd.hash k) x;have J:=ti.lay D (knd.hash k) x;generalize hL:layNew t D (knd.hash k) x=L at F I J⊢;obtain⟨d,T,wd,gv⟩:=L;dsimp only at F I J⊢;rw[NM]at F;have u:ElemsOf knd d.toList:=(m.push i y).perm F;have K:(d.toList.map λe=>kOf e.2).Perm (f++[k]):=by refine(F.map _).trans ?_;rw[gg,NC,Z k x i];exact R.append_right _
  have U:d.size=f.length+1:=by rw[<-j2,F.length_eq,ga,j2,hn];rfl
  have n:d.size<scanBound:=by rw[U];exact G
  have say:∀(b:Bool)(V:Shared)(W:Unit->Shared->Prop),W () V->wpAny (model prog w) A (match b with|true=>rule "set.scan.the-table-gave-way"|false=>pure ()) W E V:=λb V W z=>by cases b<;>first|exact eH z|exact si z
  have l:∀g:SetTable,g.fits d.size=true->qm led g->wpAny (model prog w) A (do
 storeSet a d g if(!wd&&g.tooFull)=true then do
      (match(relayAll g d (SetTable.grown d.size)).2.2 with|true=>rule "set.scan.the-table-gave-way"|false=>pure ())storeSet a (relayAll g d (SetTable.grown d.size)).1 (relayAll g d (SetTable.grown d.size)).2.1
      pure (some true)else pure (some true)) (λr s'=>wpAny (model prog w) A (match r with|some C=>pure C|none=>setAddHashedIn a x (knd.hash k) 99999) Q E s') E s:=by
   intro g f2 i2;refine a_ (wpAny_storeSet_of P hd ?_ (fits_of_scanBound n));obtain⟨g1,S1⟩:=sr (knd:=knd) (kOf:=kOf) P H hd u K n f2 i2;have M:=vr s.heap a (Obj.putSet d g);refine qq (λ_=>?_) (λ_=>eH (eH (q _ _ M S1)));have N:=relayAll_perm g d (SetTable.grown d.size);have r2:=relayAll_fits g d (SetTable.grown d.size);have X:=i2.relay d (SetTable.grown d.size);generalize relayAll g d (SetTable.grown d.size)=Rl at N r2 X⊢;obtain⟨Y,t3,aa⟩:=Rl;dsimp only at N r2 X⊢;have O:Y.size=d.size:=by rw[<-j2,N.length_eq,j2]
   refine a_ (say _ _ _ ?_);refine a_ (wpAny_storeSet_of (s:={s with heap:=s.heap.update a (Obj.putSet d g)}) g1 rfl ?_ (fits_of_scanBound (by rw[O];exact n)));obtain⟨_,S2⟩:=sr (knd:=knd) (kOf:=kOf) (ks:=f++[k]) g1 H rfl (u.perm N) ((N.map _).trans K) (by rw[O];exact n) r2 X;exact eH (eH (q _ _ (M.trans (vr _ a _)) S2))
  refine a_ (say _ _ _ ?_)
  split
  ·refine a_ ?_;rw[hashByValue_scannable 8 y];refine eH ?_;cases ad:plainKind x with|true=>exact l T I J|false=>exact l {T with plain:=false} (SetTable.fits_plain_off I) J.off
  ·exact a_ (eH (l T I J))
end
end L2
namespace L2
open PySem PySem.Spec PyProof.Rows
section
variable{prog:N6}{w:World}{A:Around}{E:N2}{s:Shared}
def GH(v:Value)(h:Q₁ (.ref s.heap.objs.size) {s with heap:=s.heap.push (fG (!w.params.followText "set-order"))}):codeAny (model prog w) A (.call (.builtin "set.__new__") ⟨[.type "set",v],[]⟩) (wants Q₁ E) s:=by refine codeAny_of_tree (show wpAny _ A.in1 (do checkBuiltinCall "set.__new__" ⟨[.type "set",v],[]⟩;again (.builtin "set.__new__" ⟨[.type "set",v],[]⟩)) _ _ s from ?_);refine a_ (wpAny_of_eq (F.newCall_set_1 v) (eH ⟨x_ F.plain_set_new _,t6 F.entry_set_new ?_⟩));rw[sD F.plain_set_new _];unfold Builtin.«set.__new__»Builtin.Frozenset.newClass;have a:=sub_set_self;obtain⟨b,g,d,tk,os⟩:=s;dsimp only;wp_walk;refine z_ (eH ?_);dsimp only;simp only[newObj];exact a_ (wpAny_alloc (eH (eH h)))
end
section
variable{prog:N6}{w:World}{A:Around}{R:Result->Shared->Prop}{c:Type}[DecidableEq c][BEq c][LawfulBEq c]{j a:Addr}{fp g:Oa}{G:Array GenState->Array GenState->Prop}{n:Nat}{P:Nat->Value->Prop}{St:Nat->Shared->Prop}
def Ci(l:List c)(x:c)[d:Decidable (x∈l)]:(if x∈l then l else l++[x])=step_dedup l x:=by
 unfold step_dedup
 by_cases h:x∈l
 ·have q:(l.any λy=>y==x)=true:=Nc.mpr ⟨x,h,sm x⟩;rw[gn h,gn q]
 ·have q:¬(l.any λy=>y==x)=true:=λz=>h (by obtain⟨y,b,q⟩:=Nc.mp z;rw[<-eq_of_beq q];exact b);rw[ge h,ge q]
def Cg(l:PySem.KeyKind prog w c)(kOf:Value->c)(led:Bool)(I:∀k v,l.is k v=true->kOf v=k)(r:WalksS prog w A.in1 j fp g G n P St)(C:a∉fp)(h:Nat->c)(t:∀i v,P i v->l.is (h i) v=true/\v.scannable=true)(D:n+1<scanBound):∀(d i:Nat)(s:Shared),n-i=d->i<=n->St i s->jy l kOf led s.heap a (tW h i)->(∀p,Moved (a::g) G s p->jy l kOf led p.heap a (tW h n)->R (.ok (.ret .none)) p)->codeAny (model prog w) A (.builtin "set.update.loop" ⟨[.ref a,.ref j],[]⟩) R s:=by
 have aw:a∉g:=λz=>C (r.sub _ z);have up:∀b∈g,b∈a::g:=λb z=>g_ _ z;intro d
 induction d with|zero=>
  intro i s hd hi st f k;obtain rfl:i=n:=by lia
  refine t6 F.entry_set_update_loop ?_;rw[sD Nd _];refine a_ (m:=pyNext (.ref j)) (r.done s _ _ st λp q=>?_);exact eH (k p (q.mono up) (f.keep λo e=>q.heap a o aw e))|succ d J=>
  intro i s hd hi st f k;have lt:i<n:=by lia
  refine t6 F.entry_set_update_loop ?_;rw[sD Nd _];refine a_ (m:=pyNext (.ref j)) (r.item i s _ _ lt st λv p Y u q=>?_);obtain⟨E,K⟩:=t i v Y;have L:jy l kOf led p.heap a (tW h i):=f.keep λo e=>q.heap a o aw e;refine a_ (m:=holding [v] (setAdd a v)) (l_ ?_);unfold setAdd;refine l_ (a_ (l.pyHash (k:=h i) E ?_));have M:(tW h i).length+1<scanBound:=by have:=Ee h i;lia
  refine Fn (s:={p with toks:=p.toks+1}) I E K L M λh' O H f2=>?_;rw[Ci,<-vB]at f2;refine eH ⟨x_ Nd _,J (i+1) _ (by lia) lt (r.frame _ p _ _ u (ov _) λb z o e=>?_) f2 λx y N=>?_⟩
  ·exact(H.2 b λB=>C (B▸z)).trans e
  ·refine k x (Moved.trans r.gtrans ((q.mono up).then_heap (ov _) λb o z e=>?_) y) N;exact(H.2 b λB=>z (B▸hF)).trans e
end
section
variable{prog:N6}{w:World}{A:Around}{E:N2}{s:Shared}{d:Type}[DecidableEq d][BEq d][LawfulBEq d]
set_option maxHeartbeats 3200000 in
def yD{b:Bool}(n:PySem.KeyKind prog w d)(kOf:Value->d)(T:∀k v,n.is k v=true->kOf v=k){l:Addr}{j:N9}{key:Nat->d}{Q:N2}(hh:A.handled=none)(hl:py b s.heap l j)(y:∀i v,j[i]?=some v->n.is (key i) v=true/\v.scannable=true)(z:j.size+1<scanBound)(k:∀(h':Heap)(tk:Nat),jy n kOf (!w.params.followText "set-order") h' s.heap.objs.size (tW key j.size)->(∀b o,s.heap.get? b=some o->h'.get? b=some o)->Q (.ref s.heap.objs.size) {s with heap:=h',toks:=tk}):wpAny (model prog w) A (call (.type "set") [.ref l]) Q E s:=by
 obtain⟨c,tl,L⟩:=F.called_set.mro;have made:=F.called_set.made;have sub:=F.called_set.sub;have nt:=F.called_set.notType;have cc:=F.called_set.canCreate;have tc:=F.typeCall_set_1 (.ref l);refine wpAny_call (codeAny_of_tree ?_);show wpAny _ _ (callAny (.type "set") _) _ _ _;refine eH ⟨Code.quiet_builtin _ (by decide+kernel),t6 F.entry_type_call ?_⟩;rw[Around.under_plain (weight_type_call_type "set" [.ref l] []) rfl]
 (repeat(any_goals(first|assumption|wp_step)));skip
 refine wh (GH (.ref l) (E:=E) (Q₁:=λu s₁=>u=.ref s.heap.objs.size/\s₁={s with heap:=s.heap.push (fG (!w.params.followText "set-order"))}) ⟨rfl,rfl⟩) λr s₁ G=>?_;cases r with|error e=>exact G|ok U=>cases U with
 |ret u=>
   obtain⟨rfl,rfl⟩:=G;have N:(s.heap.push (fG (!w.params.followText "set-order"))).get? s.heap.objs.size=some (fG (!w.params.followText "set-order")):=fy _ rfl;have ty:Shared.TypeIs {s with heap:=s.heap.push (fG (!w.params.followText "set-order"))} (.ref s.heap.objs.size) "set":=⟨_,N,rfl⟩;have li:=F.called_set.init.lookup;have bi:=F.called_set.init.bind (.ref s.heap.objs.size)
   (repeat(any_goals(first|assumption|wp_step)));skip
   refine wh (codeAny_call_builtin (R:=wants (λr p=>r=.none/\∃h' tk,p={s with heap:=h',toks:=tk}/\jy n kOf (!w.params.followText "set-order") h' s.heap.objs.size (tW key j.size)/\∀b o,s.heap.get? b=some o->h'.get? b=some o) E) F.called_set.init.plain F.entry_set_init (check_set_init_1 ty ?_)) λB p m=>?_
   ·obtain⟨⟨cl,V,dt,sl⟩,e,O,P,S⟩:=id hl;simp only at O S;subst O;subst S;have W:(s.heap.push (fG (!w.params.followText "set-order"))).get? l=some {cls:=.type (cond b "list" "tuple"),dict:=V,data:=.seq j P,slots:=sl}:=c_ _ e;have s1:isSubtype (.type (cond b "list" "tuple")) (.type "set")=pure false:=by cases b;exact F.sub_tuple_set;exact F.sub_list_set
    have s2:isSubtype (.type (cond b "list" "tuple")) (.type "frozenset")=pure false:=by cases b;exact F.sub_tuple_frozenset;exact F.sub_list_frozenset
    have ne:(Value.type (cond b "list" "tuple")==Value.type "dict")=false:=by cases b<;>decide
    have C:py b (s.heap.push (fG (!w.params.followText "set-order"))) l j:=⟨_,W,rfl,P,rfl⟩;have X:∀(A:Around)(I t:Addr),A.handled=none->t≠I->Walks prog w A I [I,t] [I] j.size (λi v=>j[i]?=some v) (λi h=>qw b h I t i/\py b h t j):=by
     cases b
     ·exactλA I t q r=>Walks.tuple q I t r j
     ·exactλA I t q r=>Walks.list q I t r j
    unfold Builtin.«set.__init__»noKeywords Builtin.Frozenset.updateFrom;generalize H:pyIter=PI;wp_walk;subst H;refine Az C ?_;refine a_ (wpAny_runValue ?_);have lt:l<s.heap.objs.size:=gV e;have sz:(s.heap.push (fG (!w.params.followText "set-order"))).objs.size=s.heap.objs.size+1:=ni ..;refine Cg n kOf (!w.params.followText "set-order") T ((X A.in1.in1.in1 _ l (by simp[hh]) (by rw[sz];exact h_ (t_ lt))).toS) (a:=s.heap.objs.size) (by rw[sz];simp only[ot,m_,xn,not_or];exact⟨h_ (rk _),lm lt⟩) key y z (j.size-0) 0 _ (by omega) (j1 _) ⟨⟨_,fy _ rfl,rfl,rfl⟩,C.at λ_ e=>c_ _ e⟩ ?f0 ?fR
    case f0=>have g:((s.heap.push (fG (!w.params.followText "set-order"))).push {cls:=.type (cond b "list_iterator" "tuple_iterator"),data:=.fields #[.ref l,.int 0 0]}).get? s.heap.objs.size=some (fG (!w.params.followText "set-order")):=c_ _ N;exact⟨_,#[],0,_,g,⟨rfl,rfl,rfl⟩,rfl,λe Y=>by simp at Y,Nu _,by decide,by rfl,⟨rfl,λ_=>f9.few (j1 _)⟩⟩
    case fR=>rintro⟨h',Z,d',J,K⟩D f;obtain rfl:Z=s.gens:=D.gens;obtain rfl:d'=s.drawn:=D.drawn;obtain rfl:K=s.os:=D.os;show wpAny _ _ _ _ _ _;refine eH (show wpAny _ _ (ret Value.none) _ _ _ from eH ⟨rfl,h',J,rfl,f,λb o q=>?_⟩);have b1:b<s.heap.objs.size:=gV q;exact D.heap b o (by rw[sz];simp only[ot,m_,xn,not_or];exact⟨h_ b1,h_ (t_ b1)⟩) (c_ _ (c_ _ q))
   ·cases B with|error e=>exact m|ok x=>cases x with|ret r=>
      obtain⟨rfl,h',tk,rfl,f,kk⟩:=m
      (repeat(any_goals(first|assumption|wp_step)));exact k _ _ f kk|_=>exact m.elim
  |_=>exact G.elim
end
end L2
namespace L2
open PySem PySem.Spec PyProof.Rows
section
variable{prog:N6}{w:World}{A:Around}{E:N2}{s:Shared}
def Do(hh:A.handled=none)(l:fI s.heap a f u t)(hn:f.size<=sizeLine)(hl:w.params.followText "set-order"=false->t.led=true)(n:t.plain=true->f9 t.place)(h:∀(h1:Heap)(d:Drawn)(tk:Nat)(c:N5),c.Perm (f.toList.map (·.2))->(∀b o,s.heap.get? b=some o->h1.get? b=some o)->s.heap.objs.size<=h1.objs.size->(h1.push (seqObj "list" c.toArray 0)).get? h1.objs.size=some (seqObj "list" c.toArray 0)->wpAny (model prog w) A.in1.in1 (Builtin.«list.sort» ⟨[.ref h1.objs.size],[]⟩) (λfin i=>∃v,fin=.done (.ret v)/\Q (.ref h1.objs.size) i) E {s with heap:=h1.push (seqObj "list" c.toArray 0),drawn:=d,toks:=tk}):wpAny (model prog w) A (call (.builtin "sorted") [.ref a]) Q E s:=by
 refine Calls.call_function_entry kind_sorted plain_sorted entry_sorted (args_sorted1 _) ?_;unfold Builtin.«sorted»;refine a_ (m:=checkCount "sorted" 1 1 _) (eH ?_);refine a_ (yT (A:=A.in1) hh l hn hl n λh1 d tk c j k p=>?_);have r:c.length=f.size:=by rw[j.length_eq,b_,j2]
 refine a_ (wpAny_newList ?_ (by rw[r];exact hn));have g:(h1.push (seqObj "list" c.toArray 0)).get? h1.objs.size=some (seqObj "list" c.toArray 0):=fy _ rfl;refine a_ (l_ (m3 slot_list_sort (s:={s with heap:=h1.push (seqObj "list" c.toArray 0),drawn:=d,toks:=tk}) ⟨_,g,rfl⟩ entry_list_sort (wpAny_mono (h h1 d tk c j k p g) (λfin i x=>?_) λ_ _ e=>e) (args_list_sort _)));obtain⟨v,rfl,q⟩:=x;exact⟨v,rfl,eH ⟨_,rfl,q⟩⟩
def yI{h1:Heap}{vs:N5}{out:N9}:(∀b o,h1.get? b=some o->(sortedHeap (h1.push (seqObj "list" vs.toArray 0)) h1.objs.size vs out).get? b=some o)/\∃e,(sortedHeap (h1.push (seqObj "list" vs.toArray 0)) h1.objs.size vs out).get? h1.objs.size=some (seqObj "list" out e):=by have g:(h1.push (seqObj "list" vs.toArray 0)).get? h1.objs.size=some (seqObj "list" vs.toArray 0):=fy _ rfl;refine⟨λb o e=>?_,sortedHeap_at g⟩;have a:b<h1.objs.size:=gV e;rw[sortedHeap_old (h_ a) (by rw[ni];exact t_ a)];exact c_ _ e
end
end L2
namespace L2
open PySem PySem.Spec PyProof.Rows
def kOf:Value->cu|.int i _=>.inl i|.str x _=>.inr x|_=>.inl 0
def EA(P:N6)(w:World):∀(k:cu)(v:Value),(aW P w).is k v=true->kOf v=k:=λk v h=>by rcases cK h with⟨i,t,rfl,rfl⟩|⟨x,t,rfl,rfl⟩<;>rfl
abbrev wk(P:N6)(w:World)(q:Addr)(a:List cu):HO:=.ext λh=>jy (aW P w) kOf (!w.params.followText "set-order") h q a
theorem aN.drawn(I:aN X a c H s)(d:Drawn):aN X a c H {s with drawn:=d}:=⟨I.ok,I.os,I.bare,I.base,I.loc,I.cell,I.free,I.freeC,I.pin,I.hok,I.len⟩
theorem vj:∀{a:N5}{c:N7},StrsAre a c->be (c.map V.str) a|_,_,.nil=>.nil|_,_,.cons x t h=>.cons ⟨t,rfl⟩ (vj h)
def Ht(b:Bool)(K:N1)(H:Hp)(p:Addr)(a:List V):Prop:=cond b (aX K H p a) (bd K H p a)
def aN.sqE{X:Cx}{c:N3}{g:St}{H:Hp}{s:Shared}{b:Bool}{p:Addr}{e:List V}(I:aN X c g H s)(h:Ht b X.K H p e):∃a,be e a/\py b s.heap p a.toArray/\∀d,Ht b X.K H p d->d=e:=by cases b with|false=>obtain⟨a,f,p,_⟩:=I.tuple h;exact⟨a,f,p,λd q=>I.tuple_inj q h⟩|true=>obtain⟨a,f,p,_⟩:=I.list h;exact⟨a,f,p.isList,λd q=>I.list_inj q h⟩
section
variable{X:Cx}
def vS{b:Bool}(hc:X.calm=true):db X (.type "set") (λj H Q=>∃(p:Addr)(a:List cu),j=[.ref p]/\Ht b X.K H p (a.map kV)/\a.length<4000/\∀q,H q=none->Q (.ref q) (aJ H q (wk X.prog X.w q (dd a)))):=by
 intro k s B H j C Q I r h;obtain⟨p,a,rfl,n,l,q⟩:=h;obtain⟨u,rfl,t⟩:=jO r;cases t;obtain⟨c,m,pl,hz⟩:=I.sqE n;have hl:=m.length;rw[b_]at hl;refine yD (aW X.prog X.w) kOf (EA _ _) (key:=λi=>a.getD i (.inl 0)) (I.ok.hd hc) pl (λi v d=>?_) (by rw[hE];unfold scanBound;omega) λh' tk f z=>?_
 ·have d:c[i]?=some v:=by simpa using d
  have hi:i<c.length:=(d_.mp d).1;obtain⟨u,h1,h2⟩:=m.get (i:=i) (x:=kV (a[i]'(by lia))) (by rw[f_,fx (by lia)];rfl);rw[d]at h1;cases h1;have e:a.getD i (.inl 0)=a[i]'(by lia):=by simp[List.getD,fx (show i<a.length by lia)]
  show(aW X.prog X.w).is (a.getD i (.inl 0)) v=true/\_;rw[e,zR];exact GX h2
 ·rw[show c.toArray.size=a.length by rw[hE];exact hl.symm,GN]at f;refine⟨.ref s.heap.objs.size,_,I.laid (h':=h') (t':=tk) (o:=wk X.prog X.w s.heap.objs.size (dd a)) z (eN _) ⟨f,?_,λh1 h2 g A=>g.keep A⟩,rfl,q _ (I.hok.fresh (eN _))⟩;obtain⟨o,_,_,_,e,_⟩:=f.ex;exact⟨o,e⟩
def Cp:db X (.builtin "len") (λc H Q=>∃(p:Addr)(a:List cu),c=[.ref p]/\H p=some (wk X.prog X.w p a)/\a.length<=4096/\Q (.int a.length) H):=by
 intro b s k H c l Q I r h;obtain⟨p,a,rfl,d,hn,q⟩:=h;obtain⟨u,rfl,g⟩:=jO r;cases g;obtain⟨f,_,_⟩:=I.hok p _ d;obtain⟨o,i,m,t,e,ex,hd,_,pm,_,j,_⟩:=f.ex;have hz:i.size=a.length:=by rw[<-pm.length_eq,b_,j2]
 refine call_len_set e ex hd j (by omega) ⟨.int _,H,I.tok _,⟨_,rfl⟩,?_⟩;rw[hz];exact q
def IR(f:jy (aW P w) kOf led h a g):∃c d t,fI h a c d t/\c.size=g.length/\(c.toList.map λe=>kOf e.2).Perm g/\qm led t/\∀e∈c.toList,mZ (kOf e.2) e.2=true:=by obtain⟨o,c,d,t,e,ex,hd,b,pm,_,i,j⟩:=f.ex;refine⟨c,d,t,⟨⟨o,e,ex.1,hd⟩,i⟩,by rw[<-pm.length_eq,b_,j2],pm,j,λx l=>?_⟩;obtain⟨⟨k,h1,_⟩,_⟩:=b x l;rw[EA P w k x.2 h1];exact h1
variable{P:N6}{w:World}
def uc(K:N1)(c:X.K=K)(hc:X.calm=true)(d:X.prog=P:=by rfl)(e:X.w=w:=by rfl):db X (.type "set") (λf H Q=>∃(p:Addr)(a:List cu),f=[.ref p]/\aX K H p (a.map kV)/\a.length<4000/\∀q,H q=none->Q (.ref q) (aJ H q (wk P w q (dd a)))):=by subst c;subst d;subst e;exact vS (b:=true) hc
def Ao(K:N1)(c:X.K=K)(hc:X.calm=true)(d:X.prog=P:=by rfl)(e:X.w=w:=by rfl):db X (.type "set") (λf H Q=>∃(p:Addr)(a:List cu),f=[.ref p]/\bd K H p (a.map kV)/\a.length<4000/\∀q,H q=none->Q (.ref q) (aJ H q (wk P w q (dd a)))):=by subst c;subst d;subst e;exact vS (b:=false) hc
def ud(c:X.prog=P:=by rfl)(d:X.w=w:=by rfl):db X (.builtin "len") (λe H Q=>∃(p:Addr)(a:List cu),e=[.ref p]/\H p=some (wk P w p a)/\a.length<=4096/\Q (.int a.length) H):=by subst c;subst d;exact Cp
end
end L2
namespace L2
open PySem PySem.Spec PyProof.Rows
section
variable{prog:N6}{w:World}{A:Around}{E:N2}{s:Shared}
def mC(a b:Str):Prop:=¬b.cps.toList<a.cps.toList
def uC(g:StrsAre d v)(h:a.Perm (pairsOf d))(n:SortedToK strKind a (pairsOf d).size):∃c,StrsAre (a.map (·.2)).toList c/\c.Perm v/\c.Pairwise mC:=by
 obtain⟨o,h1,h2,_⟩:=sorted_out_str g h n;refine⟨o,h1,h2,?_⟩;have hl:a.toList.Perm (d.zip d):=by rw[<-pairsOf_toList];exact Array.perm_iff_toList_perm.mp h
 have b:∀p,p∈a.toList->p.1=p.2/\p.1∈d:=λp k=>mem_zip_self (hl.mem_iff.mp k);have e:o=a.toList.map λp=>strOf p.2:=by rw[<-h1.strs,Array.toList_map,rx];rfl
 rw[e,List.pairwise_iff_getElem];intro i j hi hj l;have m:i<a.size:=by simpa using hi
 have f:j<a.size:=by simpa using hj
 have q:=n i j (rm l) (by rw[<-h.size_eq];exact f);obtain⟨x,t,ex⟩:=g.all _ (b a[i] (by simp)).2;obtain⟨y,u,r⟩:=g.all _ (b a[j] (by simp)).2;rw[KK_str m (x:=x) (t:=t) (q:=a[i].2) (Prod.ext ex rfl),KK_str f (x:=y) (t:=u) (q:=a[j].2) (Prod.ext r rfl)]at q
 change decide (y.cps.toList<x.cps.toList)=false at q
 simp only[NQ,Array.getElem_toList];have z:strOf a[i].2=x:=by rw[<-(b a[i] (by simp)).1,ex];rfl
 have B:strOf a[j].2=y:=by rw[<-(b a[j] (by simp)).1,r];rfl
 unfold mC;rw[z,B];exact of_decide_eq_false q
def su(hh:A.handled=none)(r:fI s.heap a f P t)(u:f.size<64)(hl:w.params.followText "set-order"=false->t.led=true)(y:t.plain=true->f9 t.place)(B:∀e∈f.toList,∃x t,e.2=Value.str x t)(h:∀(D:Addr)(h':Heap)(C:Drawn)(tk e:Nat)(out:N5)(i:N7),s.heap.objs.size<=D->(∀b o,s.heap.get? b=some o->h'.get? b=some o)->h'.get? D=some (seqObj "list" out.toArray e)->StrsAre out i->i.Perm (f.toList.map λe=>strOf e.2)->i.Pairwise mC->Q (.ref D) {s with heap:=h',drawn:=C,toks:=tk}):wpAny (model prog w) A (call (.builtin "sorted") [.ref a]) Q E s:=by
 refine Do hh r (by rw[g8];lia) hl y λh1 F tk c j G H g=>?_;have O:c.length=f.size:=by rw[j.length_eq,b_,j2]
 have k:StrsAre c (c.map strOf):=strsAre_map c λv hm=>by obtain⟨e,I,rfl⟩:=ig.mp (j.mem_iff.mp hm);exact B e I
 refine list_sort_treeK strKind_oneLt g k.keysOf (λp q pK e=>keyKind_strs (by rw[<-e];exact k)) (by lia) λd l m=>⟨_,rfl,?_⟩;obtain⟨n,J,K,L⟩:=uC k l m;obtain⟨M,e,N⟩:=yI (h1:=h1) (vs:=c) (out:=(arrOf d).map (·.2));refine h h1.objs.size _ F tk e ((arrOf d).map (·.2)).toList n H (λb o z=>M b o (G b o z)) ?_ J (K.trans ?_) L
 ·rw[Array.toArray_toList];exact N
 ·have:=j.map strOf;rw[rx]at this;exact this
end
section
variable{X:Cx}
def yW(hc:X.calm=true):db X (.builtin "sorted") (λj H Q=>∃(p:Addr)(a:N7),j=[.ref p]/\H p=some (wk X.prog X.w p (a.map Sum.inr))/\a.length<64/\∀(q:Addr)(c:N7),H q=none->c.Perm a->c.Pairwise mC->Q (.ref q) (aJ H q (.lst (c.map V.str)))):=by
 intro l s M H j N Q I r h;obtain⟨p,a,rfl,B,hn,q⟩:=h;obtain⟨u,rfl,C⟩:=jO r;cases C;obtain⟨f,_,_⟩:=I.hok p _ B;obtain⟨m,O,t,E,hz,pm,n,F⟩:=IR f;rw[b_]at hz;have v:∀e∈m.toList,∃x t,e.2=Value.str x t:=λe d=>by
  have hm:kOf e.2∈a.map Sum.inr:=pm.mem_iff.mp (ig.mpr ⟨e,d,rfl⟩);obtain⟨x,_,b⟩:=ig.mp hm;rcases cK (F e d)with⟨i,t,h1,h2⟩|⟨y,t,h1,h2⟩
  ·rw[h1]at b;cases b
  ·exact⟨y,t,h2⟩
 refine su (I.ok.hd hc) E (by lia) (λz=>by rw[n.led,z];rfl) n.up v λD h' G tk e out c A J g sa sp K=>?_;have sl:c.length=a.length:=by rw[sp.length_eq,b_,j2,hz]
 have ex:(m.toList.map λe=>strOf e.2).Perm a:=by
  have h1:=pm.map (λk:cu=>match k with|.inr x=>x|.inl _=>(⟨#[]⟩:Str));rw[rx,rx]at h1;have L:(a.map ((λk:cu=>match k with|.inr x=>x|.inl _=>(⟨#[]⟩:Str))∘Sum.inr))=a:=by rw[show((λk:cu=>match k with|.inr x=>x|.inl _=>(⟨#[]⟩:Str))∘Sum.inr)=id from rfl,List.map_id]
  rw[L]at h1;refine(NX (C_ λe d=>?_)).trans h1;obtain⟨x,t,b⟩:=v e d;rw[b];show strOf (Value.str x t)=(match kOf e.2 with|.inr x=>x|.inl _=>(⟨#[]⟩:Str));rw[b];rfl
 refine⟨.ref D,_,(I.drawn G).laid (h':=h') (t':=tk) (o:=.lst (c.map V.str)) J A ⟨?_,out,e,vj sa,g⟩,rfl,q D c (I.hok.fresh A) (sp.trans ex) K⟩;rw[b_,sl,g8];lia
def wU(hc:X.calm=true)(d:X.prog=P:=by rfl)(e:X.w=w:=by rfl):db X (.builtin "sorted") (λf H Q=>∃(p:Addr)(a:N7),f=[.ref p]/\H p=some (wk P w p (a.map Sum.inr))/\a.length<64/\∀(q:Addr)(c:N7),H q=none->c.Perm a->c.Pairwise mC->Q (.ref q) (aJ H q (.lst (c.map V.str)))):=by subst d;subst e;exact yW hc
end
section
variable{X:Cx}
end
end L2
namespace L2
open PySem PySem.W PyProof.Rows
def qy(P:N6)(w:World):zm:=λouter H s E e a=>∃(d:Addr)(C:Value)(B:Heap)(t:Addr)(c:Hp),e=.ref d/\a.os=s.os/\AllBare a.gens/\Un (jM outer) [] H c s.heap a.heap/\lr P w c a.heap/\Heap.FlyingW B outer d C (.ref t) a.heap/\(∀b o,c b=some o->∃u,B.get? b=some u)/\(∀b o,s.heap.get? b=some o->b∉jM outer->∃u,B.get? b=some u)/\E C none c
def yJ(h:env.frame=some L):jM (env::l)=L::jM l:=by unfold jM;rw[MM,h]
def lr.flown{P:N6}{w:World}{H:Hp}{h h' B:Heap}(x:lr P w H h)(c:∀b o,H b=some o->∃u,B.get? b=some u)(k:B.StaysIn h)(l:B.StaysIn h'):lr P w H h':=λa o e=>(x a o e).stay (λb u d q=>by
  obtain⟨f,g⟩:∃f,H b=some f:=by
   rcases d with rfl|d
   ·exact⟨_,e⟩
   ·exact⟨_,d⟩
  obtain⟨v,i⟩:=c b f g;have j:=k b v i;rw[q]at j;cases j;exact l b _ i) (λ_ q=>q) λ_ _ q=>q
section
variable{P:N6}{w:World}{K:N1}{mg:N4}{base:Heap}{N:N7}{a:Str}{scope:Scope}{f:Addr}{cd:Value}{A:Around}{outer:List Env}{c:Shared}{d:Hp}{E:XK}
def de:kT (qy P w) (qf (qy P w) P w K mg base N a scope f cd A outer c d E) E:=by
 rintro O X H s e G I⟨J,C,B,t,Q,rfl,os,bare,un,hok,r,m,h,q⟩;have v:(envOfC a scope c.heap.objs.size f cd).frame=some c.heap.objs.size:=rfl;have x:jM (envOfC a scope c.heap.objs.size f cd::outer)=c.heap.objs.size::jM outer:=yJ v;have j:Un (jM outer) [] d H c.heap s.heap:=I.base;have un:Un (jM (envOfC a scope c.heap.objs.size f cd::outer)) [] H Q s.heap G.heap:=un;have h:∀b o,s.heap.get? b=some o->b∉jM (envOfC a scope c.heap.objs.size f cd::outer)->∃u,B.get? b=some u:=h;have r:Heap.FlyingW B (envOfC a scope c.heap.objs.size f cd::outer) J C (.ref t) G.heap:=r;have y:∀b o,c.heap.get? b=some o->b∉jM outer->b∉jM (envOfC a scope c.heap.objs.size f cd::outer):=λb o e g hm=>by
  rw[x]at hm;rcases ot.mp hm with rfl|hm
  ·exact absurd (gV e) (nn _)
  ·exact g hm
 have p:∀b o,c.heap.get? b=some o->b∉jM outer->∃u,B.get? b=some u:=λb o e g=>by obtain⟨L,i⟩:=j.there b o e (by simp);exact h b L i (y b o e g)
 show wpAny (model P w) (A.deeper (envOfC a scope c.heap.objs.size f cd)) (leaving (envOfC a scope c.heap.objs.size f cd) (.ref J)) _ _ G;refine wpAny_leaves_onW (outer:=outer) I.ok.frames v r λh' k up=>?_;refine⟨J,C,B,t,Q,rfl,os.trans I.os,bare,?_,hok.flown m r.1 k.1,k,m,p,q⟩;have slot:∀b o,c.heap.get? b=some o->d b=none->b∈jM outer->∃sl,h'.get? b=some {o with slots:=sl}:=λb o e n g=>by
  obtain⟨sl,i⟩:=j.slot b o e n g (by simp);have n1:=j.free b o e n (by simp);obtain⟨T,z⟩:=un.slot b _ i n1 (by rw[x];exact g_ _ g) (by simp);obtain⟨_,R,l,hd⟩:=I.ok.funs.mem g;have:R=o:=by have l:c.heap.get? b=some R:=l;rw[e]at l;exact(ir l).symm
  subst this;obtain⟨M,D⟩:=up b _ z hd;exact⟨M,D⟩
 refine⟨λb o e n g _=>?_,λb o e n g _=>slot b o e n g,λb o e n _=>?_,λb o e _=>?_,λb S e=>un.tups b S (j.tups b S e),λb o u e=>un.frzs b o u (j.frzs b o u e),λb U e=>?_⟩
 ·have i:=j.keep b o e n g (by simp);have n1:=j.free b o e n (by simp);have z:=un.keep b o i n1 (y b o e g) (by simp);obtain⟨u,F⟩:=p b o e g;have D:=r.1 b u F;rw[z]at D;cases D;exact k.1 b _ F
 ·obtain⟨L,i⟩:=j.there b o e (by simp);exact un.free b L i (j.free b o e n (by simp)) (by simp)
 ·by_cases g:b∈jM outer
  ·have n:d b=none:=I.ok.frf b g;obtain⟨sl,i⟩:=slot b o e n g;exact⟨_,i⟩
  ·obtain⟨u,F⟩:=p b o e g;exact⟨u,k.1 b u F⟩
 ·obtain⟨V,i⟩:=j.tbls b U e;obtain⟨W,z⟩:=un.tbls b _ i;exact⟨V++W,by rw[z,Array.append_assoc]⟩
end
def dk.held{P:N6}{w:World}{H:Hp}{h:Heap}{a:Addr}{o:HO}(x:dk P w H h a o):∃u,h.get? a=some u:=by cases o with|lst c=>obtain⟨_,_,_,_,e⟩:=x;exact⟨_,e⟩|tup c=>obtain⟨_,_,_,_,e,_⟩:=x;exact⟨_,e⟩|dK b=>obtain⟨_,_,_,_,o,_,_,e,_⟩:=x;exact⟨_,e⟩|dT b=>obtain⟨_,_,_,_,o,_,_,e,_⟩:=x;exact⟨_,e⟩|set S n=>obtain⟨o,_,_,_,e,_⟩:=x;exact⟨_,e⟩|ins C dx fs=>obtain⟨_,_,_,e,_⟩:=x;exact⟨_,e⟩|own y=>exact x|xd fs=>obtain⟨_,⟨_,_,_,e,_⟩,_⟩:=x;exact⟨_,e⟩|rng lo hi=>obtain⟨_,_,_,e⟩:=x;exact⟨_,e⟩|frz ob u=>exact⟨_,x.1⟩|tbl d=>exact⟨_,(show h.get? a=some _ from x)⟩|met f y=>exact⟨_,(show h.get? a=some _ from x)⟩|ext φ=>exact x.2.1
def Fp(X:Cx)(E:XK):Prop:=∀(a:N3)(c:St)(H:Hp)(s:Shared)(C:Value)(d:N5)(h':Heap)(b:Addr),aN X a c H s->Heap.MadeExcOf s.heap h' b C d->E C none H->X.xe (.ref b) {s with heap:=h'}
section
variable{P:N6}{w:World}{K:N1}{mg:N4}{base:Heap}{N:N7}{a:Str}{scope:Scope}{f:Addr}{cd:Value}{A:Around}{outer:List Env}{c:Shared}{d:Hp}{E:XK}
def tF:Fp (qf (qy P w) P w K mg base N a scope f cd A outer c d E) E:=by
 intro L V H s C W h' M I O q;have m:(envOfC a scope c.heap.objs.size f cd).frame=some c.heap.objs.size:=rfl;have z:jM (envOfC a scope c.heap.objs.size f cd::outer)=c.heap.objs.size::jM outer:=yJ m;have k:Un (jM outer) [] d H c.heap s.heap:=I.base;have p:∀b o,c.heap.get? b=some o->b∉jM outer->b∉jM (envOfC a scope c.heap.objs.size f cd::outer):=λb o e g hm=>by
  rw[z]at hm;rcases ot.mp hm with rfl|hm
  ·exact absurd (gV e) (nn _)
  ·exact g hm
 generalize D:hideAll s.heap (jM (envOfC a scope c.heap.objs.size f cd::outer))=B;have l:∀{b o},s.heap.get? b=some o->b∉jM (envOfC a scope c.heap.objs.size f cd::outer)->B.get? b=some o:=λe g=>by rw[<-D];exact hideAll_get _ e g
 have r:B.StaysIn s.heap:=λb o e=>by rw[<-D]at e;exact of_hideAll _ e
 have fr:s.heap.FunFrames B (envOfC a scope c.heap.objs.size f cd::outer):=by rw[<-D];exact funFrames_hide (base:=base) I.stack λenv R b g=>MO.mpr ⟨env,R,g⟩
 have v:∀b o,c.heap.get? b=some o->b∉jM outer->∃u,B.get? b=some u:=λb o e g=>by obtain⟨S,x⟩:=k.there b o e (by simp);exact⟨S,l x (p b o e g)⟩
 have j:∀b o,H b=some o->∃u,B.get? b=some u:=λb o e=>by obtain⟨u,F⟩:=(I.hok b o e).held;exact⟨u,l F λhm=>by have n:H b=none:=I.stkFree b hm;rw[e]at n;cases n⟩
 show wpAny (model P w) (A.deeper (envOfC a scope c.heap.objs.size f cd)) (leaving (envOfC a scope c.heap.objs.size f cd) (.ref M)) _ _ _;refine wpAny_leaves_madeW (outer:=outer) (h:=s.heap) I.ok.frames m r fr O λG t y tup _ up=>?_;refine⟨M,C,B,t,H,rfl,I.os,I.bare,?_,I.hok.flown j r y.1,y,j,v,q⟩;have slot:∀b o,c.heap.get? b=some o->d b=none->b∈jM outer->∃sl,G.get? b=some {o with slots:=sl}:=λb o e n g=>by
  obtain⟨sl,x⟩:=k.slot b o e n g (by simp);have T:=O.keeps _ _ x;obtain⟨_,Q,i,hd⟩:=I.ok.funs.mem g;have:Q=o:=by have i:c.heap.get? b=some Q:=i;rw[e]at i;exact(ir i).symm
  subst this;obtain⟨J,U⟩:=up b _ T hd;exact⟨J,U⟩
 refine⟨λb o e n g _=>?_,λb o e n g _=>slot b o e n g,λb o e n _=>k.free b o e n (by simp),λb o e _=>?_,k.tups,k.frzs,k.tbls⟩
 ·exact y.1 b o (l (k.keep b o e n g (by simp)) (p b o e g))
 ·by_cases g:b∈jM outer
  ·obtain⟨sl,x⟩:=slot b o e (I.ok.frf b g) g;exact⟨_,x⟩
  ·obtain⟨u,F⟩:=v b o e g;exact⟨u,y.1 b u F⟩
end
def we:List Value:=[.type "ValueError",.type "Exception",.type "BaseException",.type "object"]
def va(K:N1)(C:Addr):Prop:=excIn K C we "ValueError.__new__"=true
theorem va.at{K:N1}{C:Addr}{h:Heap}(kin:K.In h)(x:va K C):∃l N nm q bs hd g sub i d dd s t u v w m,h.get? C=some (excClassObj nm q C N bs l hd g sub i d dd s t u v w "ValueError.__new__")/\h.Ns N m/\m "__init__"=none/\OwnTail h we l:=by
 unfold va excIn at x
 split at x
 ·rename_i dd c sl look
  split at x
  ·rename_i F y k n o p z r a slots;simp only[k4,beq_iff_eq,Bool.not_eq_true']at x;obtain⟨⟨⟨⟨⟨A,B⟩,e⟩,j⟩,b⟩,f⟩:=x;subst A B;rcases c with⟨nm,bs,D,ns,E,hd,g,sub,i,d,dl⟩;dsimp only at a e b f;subst a;subst e;obtain rfl:sl=#[k,n,o,p,some (.builtin "ValueError.__new__"),r]:=by rcases sl with⟨list⟩;exact ri Array.mk slots
   exact⟨y,ns,nm,E,bs,hd,g,sub,i,d,dd,k,n,o,p,r,_,kin _ _ look,.of_isNs (isNs_of_in kin b),nsMap_none_of_in kin b f,tail_of_in kin j⟩
  ·cases x
 ·cases x
def Il(C:Addr)(E:XK)(t:TA):TS:=λ_ a H=>t a H λb c=>b.length<=sizeLine/\E (.ref C) none c
def tG{X:Cx}{C:Addr}{E:XK}{x:Str}{S a i:Pos}{e:Expr}{d:N8}{t:TA}(W:va X.K C)(hg:Gl X x)(hm:X.mg x=some (.ref C))(hc:X.calm=true)(Z:Fp X E)(ha:PA X (e::d) t)(j:(x==("__debug__":Str))=false:=by decide)(u:starEach (e::d) X.env=(false,eval e X.env)::starEach d X.env:=by rfl)(l:(backTo a (starEach d X.env)).any (·.1)=false:=by rfl):PS X (.Raise (some (.Call (.Name x S) (e::d) [] a)) none i) (Il C E t):=by
 intro c s v H D I h;obtain⟨w,N,nm,q,bs,hd,y,sub,A,f,dd,B,G,J,L,M,O,U,V,k,T⟩:=W.at I.mod.kin;refine wpAny_Raise_call_subT (C:=C) (N:=N) (bm:=w) (mN:=O) (bmB:=we) (newId:="ValueError.__new__") (nm:=nm) (q:=q) (bs:=bs) (hdct:=hd) (sn:=y) (sub:=sub) (ab:=A) (col:=f) (dd:=dd) (k0:=B) (k1:=G) (k2:=J) (k3:=L) (k5:=M) PySem.F.excBase_ValueError (T.hasType PySem.F.excBase_ValueError.hasBase) (I.ok.hd hc) ?_ k (jx I hg hm ⟨rfl,?_⟩ j)
 ·rw[u];show(false||(backTo a (starEach d X.env)).any (·.1))=false;rw[l];rfl
 ·have g:=ha a c s v H _ I h;rw[u]at g⊢;refine so (cw g λQ R z0=>?_);obtain⟨vs,H1,I1,r,z,q1⟩:=z0;have p:∀b o,X.base.get? b=some o->R.heap.get? b=some o:=I1.bk;exact⟨rfl,by show Q.length<=_;rw[<-r.length];exact z,p _ _ U,V.keeps p,T.keeps p,λh' ea m=>Z c v H1 R (.ref C) Q h' ea I1 m q1⟩
end L2
namespace L2
open PySem PySem.W PyProof.Rows
def Un.flown{fs:Oa}{H i:Hp}{h1 h' h5 B:Heap}(un:Un fs [] H i h1 h')(c:∀b o,h1.get? b=some o->b∉fs->∃u,B.get? b=some u)(k:B.StaysIn h')(j:B.StaysIn h5)(up:h'.UpToSlots h5)(fr:∀b∈fs,H b=none/\∀o,h1.get? b=some o->∀l,o.data≠.fields l):Un fs [] H i h1 h5:=by
 have slot:∀b o,h1.get? b=some o->H b=none->b∈fs->∃sl,h5.get? b=some {o with slots:=sl}:=λb o e n a=>by obtain⟨sl,g⟩:=un.slot b o e n a (by simp);obtain⟨h,d⟩:=up b _ g ((fr b a).2 o e);exact⟨h,d⟩
 refine⟨λb o e n a m=>?_,λb o e n a _=>slot b o e n a,un.free,λb o e _=>?_,un.tups,un.frzs,un.tbls⟩
 ·have p:=un.keep b o e n a m;obtain⟨u,f⟩:=c b o e a;have d:=k b u f;rw[p]at d;cases d;exact j b _ f
 ·by_cases a:b∈fs
  ·obtain⟨sl,g⟩:=slot b o e (fr b a).1 a;exact⟨_,g⟩
  ·obtain⟨u,f⟩:=c b o e a;exact⟨u,j b u f⟩
abbrev Cx.inExc(X:Cx)(a:Addr):Cx:={X with A:=X.A.mark (some (.ref a)),calm:=false,xe:=λ_ _=>False}
section
variable{X:Cx}{a:N3}{d:St}{H:Hp}{s:Shared}{c:Addr}
theorem Cx.Ok.inExc(ok:X.Ok)(c:Addr):(X.inExc c).Ok:=⟨ok.mod,ok.kind,ok.glob,ok.blt,ok.above,ok.inj,ok.has,ok.cab,λz=>absurd z (by simp),ok.frames,ok.stk,ok.exf,ok.bs,ok.bsz,ok.noex,ok.exfs,ok.funs,ok.frf⟩
theorem aN.inExc(I:aN X a d H s)(c:Addr):aN (X.inExc c) a d H s:=⟨I.ok.inExc c,I.os,I.bare,I.base,I.loc,I.cell,I.free,I.freeC,I.pin,I.hok,I.len⟩
def aN.outExc(ok:X.Ok)(I:aN (X.inExc c) a d H s):aN X a d H s:=⟨ok,I.os,I.bare,I.base,I.loc,I.cell,I.free,I.freeC,I.pin,I.hok,I.len⟩
theorem SP.outExc(ok:X.Ok)(h:SP (X.inExc c) a D f g):SP X a D f g:=by cases f with|next=>obtain⟨b,e,I,q⟩:=h;exact⟨b,e,I.outExc ok,q⟩|brk=>obtain⟨b,e,I,q⟩:=h;exact⟨b,e,I.outExc ok,q⟩|cont=>obtain⟨b,e,I,q⟩:=h;exact⟨b,e,I.outExc ok,q⟩|ret u=>obtain⟨v,b,e,I,r,q⟩:=h;exact⟨v,b,e,I.outExc ok,r,q⟩
end
def i5(c:zm)(X:Cx)(E:XK)(a:N3)(d:St):Prop:=∀(H:Hp)(s:Shared)(e:Value)(b:Shared),aN X a d H s->c X.stack H s E e b->X.xe e b
def J1(X:Cx)(a:N3)(c:St)(e:Expr)(t:TE):Prop:=∀(s:Shared)(H:Hp)(Q:VK),aN X a c H s->t c H Q->wpAny (model X.prog X.w) X.A (eval e X.env) (EP X a c Q) X.xe s
def Hw(X:Cx)(a:N3)(c:St)(st:Stmt)(t:TS):Prop:=∀(s:Shared)(H:Hp)(D:lq),aN X a c H s->t D c H->wpAny (model X.prog X.w) X.A (exec st X.env) (SP X a D) X.xe s
def LS(c:XK->TS)(C:Addr)(d:TS):TS:=λD a H=>c (λb _ e=>b=.ref C/\d D a e) D a H
structure zi(X:Cx)(pins:N3)(σ:St)(ea:Addr)(C':Value)(H':Hp)(s:Shared):Prop where
 inv:aN X pins σ H' s
 fly:∃(B:Heap)(t:Addr),Heap.FlyingW B X.stack ea C' (.ref t) s.heap/\∀h6,B.StaysIn h6->s.heap.UpToSlots h6->aN X pins σ H' {s with heap:=h6}
def zi.run{X:Cx}{a:N3}{d:St}{c:Addr}{m:Value}{e:Hp}{s:Shared}{D:lq}{b:List Stmt}{j:TS}{A:Around}{l:Flow->Shared->Prop}{n o:N2}(L:zi X a d c m e s)(hh:∀c,uA (X.inExc c) b j)(g:j D d e)(p:∀f s,SP X a D f s->l f s):wpAny (model X.prog X.w) A (setFlight (.ref c) none) (λ_ s₁=>wpAny (model X.prog X.w) (X.A.mark (some (.ref c))) (execs b X.env) l n s₁) o s:=by obtain⟨B,t,q,k⟩:=L.fly;exact lands_againW q λh6 h i=>wpAny_mono (hh c a _ d e D ((k h6 h.1 i).inExc c) g) (λf r z=>p f r (z.outExc L.inv.ok)) λ_ _ z=>z.elim
def zi.obj{X:Cx}{a:N3}{e:St}{c:Addr}{d:Value}{f:Hp}{s:Shared}(L:zi X a e c d f s):∃o,s.heap.get? c=some o/\o.cls=d:=by obtain⟨B,t,b,k⟩:=L.fly;exact b.there
def zi.keep{X:Cx}{a:N3}{c:St}{d:Addr}{e:Value}{g:Hp}{s:Shared}{h':Heap}(L:zi X a c d e g s)(k:∀b o,s.heap.get? b=some o->h'.get? b=some o):zi X a c d e g {s with heap:=h'}:=by obtain⟨B,t,h,l⟩:=L.fly;have up:s.heap.UpToSlots h':=λb o i _=>⟨o.slots,k _ _ i⟩;have f:=flying_keeps h k;exact⟨l h' f.1 up,B,t,f,λh6 j m=>l h6 j (up.trans m)⟩
def xt{X:Cx}{st:Stmt}{h0:ExceptHandler}{N:List ExceptHandler}{T:XK->TS}{R:Value->Hp->Prop}{P:Pos}{a:N3}{s:Shared}{g:St}{H:Hp}{D:lq}(l:X.stack=X.env::X.outer)(hf:X.env.frame=some X.env.locals)(L:∀(E:XK)(a:N3)(g:St)(W:N2),i5 (qy X.prog X.w) (X.wish W) E a g->Hw (X.wish W) a g st (T E))(I:aN X a g H s)(h:T (λi _ d=>R i d) D g H)(hc:∀p i d Z,R i d->zi X a g p i d Z->wpAny (model X.prog X.w) X.A (handleBy (.ref p) X.env (h0::N)) (SP X a D) X.xe Z):wpAny (model X.prog X.w) X.A (exec (.Try [st] (h0::N) [] [] P) X.env) (SP X a D) X.xe s:=by
 refine wpAny_Try_except ?_;have V:i5 (qy X.prog X.w) (X.wish λe s₁=>wpAny (model X.prog X.w) X.A (noteFrame e X.env) (λ_ q=>wpAny (model X.prog X.w) X.A (setFlight e none) (λ_ r=>wpAny (model X.prog X.w) X.A (handleBy e X.env (h0::N)) (SP X a D) X.xe r) X.xe q) X.xe s₁) (λi _ d=>R i d) a g:=by
  rintro U M e m I1⟨p,i,B,t,d,rfl,os,bare,un,hok,x,y,c,O⟩;have I1:=I1.unwish;have un:Un (jM X.stack) [] U d M.heap m.heap:=un;have x:Heap.FlyingW B X.stack p i (.ref t) m.heap:=x;have c:∀b o,M.heap.get? b=some o->b∉jM X.stack->∃u,B.get? b=some u:=c;have Q:∀b∈jM X.stack,U b=none/\∀o,M.heap.get? b=some o->∀Y,o.data≠.fields Y:=λb L=>by refine⟨I1.stkFree b L,λo e=>?_⟩;obtain⟨_,o',C,hd⟩:=I1.stack.mem L;rw[e]at C;cases C;exact hd
  have j:∀h5,B.StaysIn h5->m.heap.UpToSlots h5->aN X a g d {m with heap:=h5}:=λh5 k up=>I1.call' (s':={m with heap:=h5}) (ch:=[]) os (un.flown c x.1 k up Q) (hok.flown y x.1 k) bare λb z=>absurd z (by simp)
  show wpAny (model X.prog X.w) X.A (noteFrame (.ref p) X.env) _ X.xe m;have F:=x;rw[l]at F;refine wpAny_looks_onW (outer:=X.outer) (by rw[I.ok.frames,l]) hf F λh4 n G=>?_;refine wpAny_landsW n λh5 J K=>hc p i d _ O ⟨j h5 J.1 (G.trans K),B,t,by rw[l];exact J,λh6 k6 S=>j h6 k6 ((G.trans K).trans S)⟩
 have b:=L _ a g _ V s H D (I.wish _) h;refine NP (wpAny_mono b (λf M z=>?_) λ_ _ z=>z);have z:=z.unwish;cases f with|next=>exact MG (MG z)|ret v=>exact z|brk=>exact z|cont=>exact z
def IW{X:Cx}{st n:Stmt}{a:List Stmt}{o:XK->TS}{p:TS}{C:Addr}{x:Str}{t d e:Pos}(f:X.stack=X.env::X.outer)(u:X.env.frame=some X.env.locals)(v:va X.K C)(hg:Gl X x)(hm:X.mg x=some (.ref C))(y:∀(E:XK)(c:N3)(g:St)(r:N2),i5 (qy X.prog X.w) (X.wish r) E c g->Hw (X.wish r) c g st (o E))(hh:∀i,uA (X.inExc i) (n::a) p)(j:(x==("__debug__":Str))=false:=by decide):PS X (.Try [st] [.ExceptHandler (some (.Name x t)) none (n::a) d] [] [] e) (LS o C p):=by intro c s g H D I h;refine xt f u y I h λi J M O A L=>?_;obtain⟨rfl,k⟩:=A;refine wpAny_handleBy_cons (codeAny_handlers_test (jx (L.inv.inExc i) hg hm ?_ j)) (by intro z;cases z);obtain⟨P,N,nm,q,bs,hd,Q,sub,R,B,dd,S,U,V,W,Y,Z,l,hN,G,T⟩:=v.at I.mod.kin;obtain⟨ob,m,b⟩:=L.obj;exact wpAny_excMatches_sub_self (L.inv.bk _ _ l) m b (T.hasType PySem.F.excBase_ValueError.hasBase) (codeAny_handlers_suite (L.run hh k λ_ _ z=>z))
section
variable{X:Cx}{L:zm}{k:Nat}{f C:Addr}{fd:FuncData}{J:N7}{sp:Sp}{j:List V}{ds:N5}{E:XK}{x m:Str}{p i G:Pos}{e o:Expr}{B:N8}{M:TE}{t:TA}{d:N3}{n:St}
def DA(F:aQ X.prog X.w X.K X.mg X.base L k f fd J sp)(c:eQ k X.A)(g:fu X.K fd J ds)(hd:be j ds)(l:i5 L X E d n)(I:aN X d n H s)(r:be vs us)(h:sp (vs++j) H Q E):wpAny (model X.prog X.w) X.A (call (.ref f) us) (EP X d n Q) X.xe s:=by
 have a:be (vs++j) (us++ds):=r.append hd;have len:(us++ds).length=J.length:=a.length▸F.len _ _ _ _ h;refine wpAny_call (wh (F.run X.A X.stack s H ⟨us,[]⟩ (us++ds) (vs++j) Q E c I.env0 (g s us I.kIn len) a h) λb q z=>?_);rcases b with ex|v
 ·exact l H s ex q I z
 ·cases v with|ret u=>exact I.after z|next=>cases z|brk=>cases z|cont=>cases z
def GM(P:PE X o M)(c:xj X.K C)(hm:Fy X.K C m f)(F:aQ X.prog X.w X.K X.mg X.base L k f fd J sp)(R:eQ k X.A)(S:fu X.K fd J ds)(hd:be j ds)(T:i5 L X E d n)(Z:PA X (e::B) t)(y:starEach (e::B) X.env=(false,eval e X.env)::starEach B X.env:=by rfl)(z:(backTo i (starEach B X.env)).any (·.1)=false:=by rfl)(ht:eval (.Call (.Attribute o m G) (e::B) [] i) X.env=(do
   let obj<-eval o X.env
   standAt G.atName let(g,first)<-holding [obj] (getMethod obj m pl)callWith i g first (backTo i (starEach (e::B) X.env)) (backToKw i (keywordEach [] X.env))):=by rfl):J1 X d n (.Call (.Attribute o m G) (e::B) [] i) (CM C m sp j E M t):=by intro s H Q I h;refine PySem.W.methodCall_KW (pl:=pl) (cw (P d s n H _ I h) λu U⟨v,Y,I1,rv,a,dx,fs,ev,ea,l,q⟩=>?_) ht;subst ev;cases(show u=Value.ref a from rv);refine nH I1 ea c hm l (PySem.W.callWith_K (first:=[.ref a]) (h₀:=X.base) I.ok.mod.kin hm.kp (cw (Z i d U n Y _ I1 q) λD s2⟨N,H2,O,r,q2⟩=>⟨O.kIn,?_⟩) y z);exact DA (us:=.ref a::D) (vs:=.ref a::N) F R S hd T O (.cons rfl r) q2
def Hk(F:aQ X.prog X.w X.K X.mg X.base L k f fd J sp)(g:eQ k X.A)(hg:Gl X x)(hm:X.mg x=some (.ref f))(l:PySem.W.keepIn X.K (.ref f)=true)(u:fu X.K fd J ds)(hd:be j ds)(v:i5 L X E d n)(y:PA X (e::B) t)(a:(x==("__debug__":Str))=false:=by decide)(z:starEach (e::B) X.env=(false,eval e X.env)::starEach B X.env:=by rfl)(c:(backTo i (starEach B X.env)).any (·.1)=false:=by rfl):J1 X d n (.Call (.Name x p) (e::B) [] i) (CO sp j E t):=by intro s H Q I h;refine qx (jx I hg hm (PySem.W.callWith_K (h₀:=X.base) I.ok.mod.kin l (cw (y i d s n H _ I h) λD N⟨O,P,I1,r,q⟩=>⟨I1.kIn,?_⟩) z c) a);exact DA F g u hd v I1 r q
def AY(a:J1 X d n e te)(c:swapsWith e none i.line X.env=pure false:=by rfl):Hw X d n (.Expr e i) (HB te):=by intro s H D I h;exact wpAny_Expr_any (cw (a s H _ I h) λv l⟨y,b,I1,q,g⟩=>⟨n,b,I1,g⟩) I.quiet c
end
theorem PS.nox{X:Cx}{st:Stmt}{t:TS}(h:PS X.nox st t):PS X st t:=λa s b H D I c=>wpAny_mono (h a s b H D (I.wish _) c) (λ_ _ q=>q.unwish) λ_ _ z=>False.elim z
section
variable{P:N6}{w:World}{K:N1}{mg:N4}{base:Heap}
def xi.okE{x a:Str}{st:Stmt}{f:Addr}{fd:FuncData}{N g:N7}{k:Nat}{sp:Sp}(F:xi K x a st f fd)(S:av N g (ai st))(len:∀d H Q E,sp d H Q E->d.length=g.length)(e:∀(c:Value)(A:Around)(outer:List Env)(s:Shared)(H:Hp)(d:List V)(Q:VK)(E:XK),eQ k (A.deeper (envOfC a (ai st) s.heap.objs.size f c))->sp d H Q E->∃t,uA (qf (qy P w) P w K mg base N a (ai st) f c A outer s H E) (gx st) t/\t {nx:=λ_ i=>Q .non i,rt:=Q} (iP N d) H):aQ P w K mg base (qy P w) (k+1) f fd g sp:=by obtain⟨oc,o,kV,j,pm,p,c,ct,l,rfl,m,b⟩:=F.ex;exact HP m b S len λA outer s H d Q E n h=>e c A outer s H d Q E n h
end
def Hi(s:Stmt):List Stmt:=match s with|.ClassDef _ _ _ b _ _ _ _ _ _ _=>b|_=>[]
end L2
namespace L2
open PySem PySem.W PyProof.Rows
abbrev bC:=cu⊕List cu
section
variable(P:N6)(w:World)
def hU:bC->Int|.inl k=>(aW P w).hash k|.inr []=>hashW w.params .none|.inr (k::a)=>(tupleKind (aW P w)).hash (k::a)
def iY:bC->Nat|.inl _=>1|.inr a=>a.length+1
def iJ(h:Heap)(k:bC)(v:Value):Prop:=match k with|.inl k=>(aW P w).is k v=true|.inr []=>v=.none|.inr (k::b)=>∃a,v=.ref a/\(tupleKind (aW P w)).is h (k::b) a
abbrev gy:=bC×Value×Value
def rp(x:gy):DictEntry:=⟨hU P w x.1,x.2.1,x.2.2⟩
end
section
variable{P:N6}{w:World}{A:Around}{E:N2}{s:Shared}
def iJ.flat(x:iJ P w h (.inl k) v):(∃i t,v=.int i t/\k=.inl i)\/∃z t,v=.str z t/\k=.inr z:=by have x:mZ k v=true:=x;cases k with
 |inl i=>have x:Value.isInt i v=true:=x;cases v with|int j t=>simp[Value.isInt]at x;exact .inl ⟨_,_,rfl,by rw[x]⟩|_=>cases x
 |inr z=>have x:Value.isStrOf z v=true:=x;cases v with|str j t=>simp[Value.isStrOf]at x;exact .inr ⟨_,_,rfl,by rw[x]⟩|_=>cases x
def Ek(d:A.units<cLine)(c:iJ P w s.heap k v)(q:Q (hU P w k) {s with toks:=s.toks+iY k}):wpAny (model P w) A (pyHash v) Q E s:=by match k,c,q with|.inl k,c,q=>exact(aW P w).pyHash c q|.inr [],c,q=>cases c;exact pyHash_slot (T:="NoneType") rfl F.slot_NoneType_hash F.entry_NoneType_hash (F.args_NoneType_hash_1 _) (beq_builtin_none _) (.inr (by omega)) (a_ (eH (a_ (wpAny_mkInt (eH ⟨_,_,rfl,q⟩)))))|.inr (k::e),c,q=>obtain⟨a,rfl,b⟩:=c;exact(tupleKind (aW P w)).pyHash d b q
def Lq:SeqAt.EqAt A s .none .none true:=λprog w E Q a=>by unfold eqBool;refine l_ ?_;exact qq (λ_=>a_ (si (eH a))) (λz=>absurd (by decide) z)
def GP(f:A.units<cLine)(d:iJ P w s.heap x u)(c:iJ P w s.heap y v)(q:Q (decide (x=y)) s):wpAny (model P w) A (eqBool u v) Q E s:=by match x,d,q with
 |.inl x,d,q=>match y,c,q with
  |.inl y,c,q=>exact(aW P w).eqBool d c (by simpa using q)|.inr [],c,q=>
   cases c;rw[iA (by intro z;cases z)]at q;rcases iJ.flat d with⟨i,t,rfl,_⟩|⟨z,t,rfl,_⟩
   ·exact SeqAt.EqAt.int_none i t P w E Q q
   ·exact SeqAt.EqAt.str_none z t P w E Q q|.inr (k::j),c,q=>
   obtain⟨a,rfl,o,g,n,e,hc,hd,hi⟩:=c;rw[iA (by intro z;cases z)]at q;rcases iJ.flat d with⟨i,t,rfl,_⟩|⟨z,t,rfl,_⟩
   ·exact SeqAt.EqAt.int_tuple i t ⟨_,e,hc,_,hd⟩ f P w E Q q
   ·exact SeqAt.EqAt.str_tuple z t ⟨_,e,hc,_,hd⟩ f P w E Q q
 |.inr [],d,q=>
  cases d
  match y,c,q with
  |.inl y,c,q=>
   rw[iA (by intro z;cases z)]at q;rcases iJ.flat c with⟨i,t,rfl,_⟩|⟨z,t,rfl,_⟩
   ·exact SeqAt.EqAt.none_int i t P w E Q q
   ·exact SeqAt.EqAt.none_str z t P w E Q q|.inr [],c,q=>cases c;rw[il rfl]at q;exact Lq P w E Q q|.inr (k::j),c,q=>obtain⟨a,rfl,o,g,n,e,hc,hd,hi⟩:=c;rw[iA (by intro z;cases z)]at q;exact SeqAt.EqAt.none_tuple ⟨_,e,hc,_,hd⟩ f P w E Q q
 |.inr (k::j),d,q=>
  obtain⟨a,rfl,h⟩:=d
  match y,c,q with
 |.inl y,c,q=>
   obtain⟨o,g,n,e,hc,hd,hi⟩:=h;rw[iA (by intro z;cases z)]at q;rcases iJ.flat c with⟨i,t,rfl,_⟩|⟨z,t,rfl,_⟩
   ·exact SeqAt.EqAt.tuple_int i t ⟨_,e,hc,_,hd⟩ f P w E Q q
   ·exact SeqAt.EqAt.tuple_str z t ⟨_,e,hc,_,hd⟩ f P w E Q q|.inr [],c,q=>cases c;obtain⟨o,g,n,e,hc,hd,hi⟩:=h;rw[iA (by intro z;cases z)]at q;exact SeqAt.EqAt.tuple_none ⟨_,e,hc,_,hd⟩ f P w E Q q|.inr (l::ls),c,q=>obtain⟨b,rfl,hl⟩:=c;exact(tupleKind (aW P w)).eqBool f h hl (by simpa using q)
def AT(c:iJ P w s.heap k v)(q:Q true s):wpAny (model P w) A (eqIsQuiet 8 v) Q E s:=by match k,c with
 |.inl k,c=>
  rcases iJ.flat c with⟨i,t,rfl,_⟩|⟨z,t,rfl,_⟩
  ·exact eH q
  ·exact eH q|.inr [],c=>cases c;exact eH q|.inr (k::d),c=>obtain⟨a,rfl,b⟩:=c;exact(tupleKind (aW P w)).quiet b q
theorem iJ.inj(d:iJ P w h x v)(c:iJ P w h y v):x=y:=by match x,d with
 |.inl x,d=>match y,c with|.inl y,c=>rw[(aW P w).inj v x y d c]|.inr [],c=>cases c;rcases iJ.flat d with⟨i,t,e,_⟩|⟨z,t,e,_⟩<;>cases e|.inr (k::f),c=>obtain⟨a,rfl,_⟩:=c;rcases iJ.flat d with⟨i,t,e,_⟩|⟨z,t,e,_⟩<;>cases e
 |.inr [],d=>
  cases d
  match y,c with|.inl y,c=>rcases iJ.flat c with⟨i,t,e,_⟩|⟨z,t,e,_⟩<;>cases e|.inr [],_=>rfl|.inr (k::f),c=>obtain⟨a,e,_⟩:=c;cases e
 |.inr (k::f),d=>
  obtain⟨a,rfl,g⟩:=d
  match y,c with|.inl y,c=>rcases iJ.flat c with⟨i,t,e,_⟩|⟨z,t,e,_⟩<;>cases e|.inr [],c=>cases c|.inr (l::ls),c=>obtain⟨b,e,hl⟩:=c;cases e;rw[(tupleKind (aW P w)).inj g hl]
def GO{k:bC}{v:Value}{st:N5}{Q:Bool->Shared->Prop}(c:iJ P w s.heap k v)(d:∀u∈st,∃a,iJ P w s.heap a u)(q:Q false s):wpAny (model P w) A (tableMayTell v st) Q E s:=by
 unfold tableMayTell
 split
 ·exact eH q
 ·refine a_ (AT c ?_);simp only[Bool.not_true,G_,M6];refine a_ (NO _ (λleft r b=>b=s/\r=(none,())/\∀u∈left,∃a,iJ P w s.heap a u) _ ?_ ?_ _ _ ⟨rfl,rfl,d⟩)
  ·rintro u left r b⟨rfl,rfl,hl⟩;obtain⟨a,e⟩:=hl u hF;refine a_ (AT e ?_);simp only[Bool.not_true,G_,M6];exact eH ⟨rfl,rfl,λz hz=>hl z (g_ _ hz)⟩
  ·rintro r b⟨rfl,rfl,_⟩;exact eH q
def K6{a:Array DictEntry}{c:List gy}(d:a.toList=c.map (rp P w))(j:Nat):a[j]?=(c[j]?).map (rp P w):=by rw[<-sg,d,f_]
def Ei{a:Array DictEntry}{c:List gy}(d:a.toList=c.map (rp P w)):a.size=c.length:=by rw[<-j2,d,b_]
def Ej{a:List gy}(hn:(a.map (·.1)).Nodup){i j:Nat}{k:bC}{p q:Value×Value}(hi:a[i]?=some (k,p))(hj:a[j]?=some (k,q)):i=j:=by
 have b:(a.map (·.1))[i]?=some k:=by rw[f_,hi];rfl
 have c:(a.map (·.1))[j]?=some k:=by rw[f_,hj];rfl
 exact(K_ (d_.mp b).1 hn).mp (b.trans c.symm)
def Ma[Decidable c](h1:c->wpAny (model P w) A t Q E s)(h2:¬c->wpAny (model P w) A u Q E s):wpAny (model P w) A (if c then t else u) Q E s:=by
 by_cases h:c
 ·rw[gn h];exact h1 h
 ·rw[ge h];exact h2 h
def J3(a:List gy)(k:bC)(s:Shared)(b:Option (Option Nat)×Option Nat)(c:Shared):Prop:=c=s/\((∃j p,b=(some (some j),none)/\a[j]?=some (k,p))\/(b.1=none/\((b.2=none/\∀(j:Nat)(p:Value×Value),a[j]?≠some (k,p))\/∃j p,b.2=some j/\a[j]?=some (k,p))))
def Jp{g:List gy}{k:bC}{a:N_}(hn:(g.map (·.1)).Nodup)(t:∀j p,g[j]?=some (k,p)->j∈a)(u:∀j∈a,∃y:gy,g[j]?=some y/\hU P w y.1=hU P w k)(l:a.Nodup)(f:Nat->Option (Option Nat)×Option Nat->Sem (ForInStep (Option (Option Nat)×Option Nat)))(h1:∀(x:Nat)(p:Value×Value)(R:ForInStep (Option (Option Nat)×Option Nat)->Shared->Prop),x∈a->g[x]?=some (k,p)->R (.done (some (some x),none)) s->R (.yield (none,some x)) s->wpAny (model P w) A (f x (none,none)) R E s)(h2:∀(x:Nat)(m:Option Nat)(y:gy)(R:ForInStep (Option (Option Nat)×Option Nat)->Shared->Prop),x∈a->g[x]?=some y->hU P w y.1=hU P w k->y.1≠k->R (.yield (none,m)) s->wpAny (model P w) A (f x (none,m)) R E s):wpAny (model P w) A (forIn a ((none,none):Option (Option Nat)×Option Nat) f) (J3 g k s) E s:=by
 refine NO f (λleft b v=>v=s/\b.1=none/\∃pre,a=pre++left/\((b.2=none/\∀j∈pre,∀p,g[j]?≠some (k,p))\/∃j p,b.2=some j/\j∈pre/\g[j]?=some (k,p))) _ ?_ ?_ _ _ ⟨rfl,rfl,[],rfl,.inl ⟨rfl,by simp⟩⟩
 ·rintro x left⟨b1,b2⟩v⟨rfl,rfl,pre,n,r⟩;have h:x∈a:=by rw[n];simp
  have B:x∉pre:=λz=>by rw[n,n7]at l;exact l.2.2 x z x hF rfl
  obtain⟨y,i,hh⟩:=u x h;have o:a=(pre++[x])++left:=by rw[n];simp
  by_cases e:y.1=k
  ·obtain⟨C,p⟩:=y;have e:C=k:=e;subst e;rcases r with⟨rfl,d⟩|⟨j,q,rfl,hj,c⟩
   ·refine h1 x p _ h i ⟨rfl,.inl ⟨x,p,rfl,i⟩⟩ ⟨rfl,rfl,pre++[x],o,.inr ⟨x,p,rfl,by simp,i⟩⟩
   ·exact absurd (Ej hn c i▸hj) B
  ·refine h2 x b2 y _ h i hh e ⟨rfl,rfl,pre++[x],o,?_⟩;rcases r with⟨rfl,d⟩|⟨j,q,rfl,hj,c⟩
   ·refine .inl ⟨rfl,λj hj p z=>?_⟩;rcases List.mem_append.mp hj with hj|hj
    ·exact d j hj p z
    ·rw[List.mem_singleton.mp hj,i]at z;cases z;exact e rfl
   ·exact .inr ⟨j,q,rfl,u1 _ hj,c⟩
 ·rintro⟨b1,b2⟩v⟨rfl,rfl,pre,n,r⟩;refine⟨rfl,.inr ⟨rfl,?_⟩⟩;rcases r with⟨rfl,d⟩|⟨j,q,rfl,hj,c⟩
  ·refine .inl ⟨rfl,λj p z=>d j ?_ p z⟩;have:=t j p z;rw[n,qr]at this;exact this
  ·exact .inr ⟨j,q,rfl,c⟩
def El{d:Addr}{o:Obj}{m:Array DictEntry}{ep:Nat}{B:List gy}{k:bC}{g:Value}{Q:Option Nat->Shared->Prop}(hu:A.units<cLine)(f:iJ P w s.heap k g)(I:s.heap.get? d=some o)(hd:o.data=.dict m ep)(he:m.toList=B.map (rp P w))(u:∀x∈B,iJ P w s.heap x.1 x.2.1)(hn:(B.map (·.1)).Nodup)(C:(∀(j:Nat)(p:Value×Value),B[j]?≠some (k,p))->Q none s)(n:∀(j:Nat)(p:Value×Value),B[j]?=some (k,p)->Q (some j) s):wpAny (model P w) A (dictFind d g (hU P w k)) Q E s:=by
 have sz:=Ei he;have q:=K6 he;generalize J:placesWithHash m.size (λi=>m[i]?.map (·.hash)) (hU P w k)=c;have aa:∀j p,B[j]?=some (k,p)->j∈c:=λj p hj=>by
  rw[<-J];unfold placesWithHash;refine oe.mpr ⟨n_.mpr ?_,?_⟩
  ·rw[sz];exact(d_.mp hj).1
  ·show(m[j]?.map (·.hash)==some (hU P w k))=true;rw[q j,hj];simp[rp]
 have N:∀j∈c,∃y:gy,B[j]?=some y/\hU P w y.1=hU P w k:=λj hj=>by rw[<-J]at hj;unfold placesWithHash at hj;obtain⟨h1,h2⟩:=oe.mp hj;have h1:=n_.mp h1;rw[sz]at h1;refine⟨B[j],fx h1,?_⟩;have h2:(m[j]?.map (·.hash)==some (hU P w k))=true:=h2;rw[q j,fx h1]at h2;simpa[rp]using h2
 have al:c.Nodup:=by rw[<-J];exact List.filter_sublist.nodup List.nodup_range
 have plain:wpAny (model P w) A (dictWalkPlain d g (hU P w k) m c) Q E s:=by
  unfold dictWalkPlain;refine a_ (NO _ (λleft b s'=>s'=s/\b=(none,())/\∃pre,c=pre++left/\∀j∈pre,∀p,B[j]?≠some (k,p)) _ ?_ ?_ _ _ ⟨rfl,rfl,[],rfl,by simp⟩)
  ·rintro x left b s'⟨rfl,rfl,pre,hp,O⟩;obtain⟨⟨K,kv,v'⟩,l,hh⟩:=N x (by rw[hp];simp);have F:m[x]?=some ⟨hU P w K,kv,v'⟩:=by rw[q x,l];rfl
   rw[F];dsimp only;rw[gn (by rw[hh];simp)];refine a_ (t4 I hd (a_ (GP (x:=K) (y:=k) hu (u _ (e_ l)) f (a_ (t4 I hd ?_)))));show wpAny (model P w) A (if(ep !=ep)=true then _ else _) _ E s';rw[ge (by simp)]
   by_cases L:K=k
   ·rw[il L];subst L;exact a_ (si (eH (eH (n x _ l))))
   ·rw[iA L];refine a_ (si (eH ⟨rfl,rfl,pre++[x],by rw[hp];simp,λj hj p z=>?_⟩));rcases List.mem_append.mp hj with hj|hj
    ·exact O j hj p z
    ·rw[List.mem_singleton.mp hj,l]at z;cases z;exact L rfl
  ·rintro b s'⟨rfl,rfl,pre,hp,O⟩;refine eH (C λj p z=>O j ?_ p z);have:=aa j p z;rw[hp,qr]at this;exact this
 have ad:∀v∈c.filterMap (λi=>m[i]?.map (·.key)),∃K,iJ P w s.heap K v:=λv S=>by obtain⟨i,hi,S⟩:=MO.mp S;obtain⟨y,H,_⟩:=N i hi;rw[q i,H]at S;cases S;exact⟨_,u y (e_ H)⟩
 unfold dictFind
 with_reducible refine l_ ?_
 refine a_ (wpAny_dictEntries I hd ?_);dsimp only;rw[J];generalize a2:c.filterMap (λi=>m[i]?.map (·.key))=stored at ad⊢;have G:∀z t,g=.str z t->(m.all λe=>isExactStrKey e.key)=true->wpAny (model P w) A (foundByValue d g m z) Q E s:=by
  rintro z t rfl-;have ek:k=.inl (.inr z):=by
   cases k with|inl k=>
    rcases f.flat with⟨i,t',e,_⟩|⟨z',t',e,e2⟩
    ·cases e
    ·cases e;rw[e2]|inr ks=>cases ks with|nil=>cases f|cons k ks=>obtain⟨a,e,_⟩:=f;cases e
  have an:∀(j:Nat)(y:gy),B[j]?=some y->y.2.1.isStr z=true->y.1=k:=λj y H hz=>by have h3:=u y (e_ H);refine iJ.inj h3 ?_;rw[ek];cases S:y.2.1 with
 |str z' t'=>
    rw[S]at hz;have:z'=z:=by simpa[Value.isStr]using hz
    rw[this];exact qM P w z t'|_=>rw[S]at hz;cases hz
  have ap:∀(j:Nat)(p:Value×Value),B[j]?=some (k,p)->p.1.isStr z=true:=λj p hj=>by
   have h3:iJ P w s.heap k p.1:=u _ (e_ hj);rw[ek]at h3;rcases h3.flat with⟨i,t',_,e⟩|⟨z',t',e,e2⟩
   ·cases e
   ·cases e2;rw[e];simp[Value.isStr]
  unfold foundByValue;cases hf:m.findIdx? (λe=>e.key.isStr z)with
 |none=>
   refine eH (C λj p hj=>?_);have D:=Array.findIdx?_eq_none_iff.mp hf;have h4:m[j]?=some (rp P w (k,p)):=by rw[q j,hj];rfl
   have h5:=D _ (Array.mem_of_getElem? h4);have h6:p.1.isStr z=false:=by simpa[rp]using h5
   rw[ap j p hj]at h6;cases h6|some i=>
   obtain⟨T,hi,_⟩:=Array.findIdx?_eq_some_iff_getElem.mp hf;have l:B[i]?=some (B[i]'(by rw[<-sz];exact T)):=fx _;generalize B[i]'(by rw[<-sz];exact T)=y at l;have F:m[i]?=some (rp P w y):=by rw[q i,l];rfl
   have as:y.2.1.isStr z=true:=by rw[r4 T]at F;rw[ir F]at hi;exact hi
   have H:=an i y l as;obtain⟨K,p⟩:=y;have H:K=k:=H;subst H;dsimp only;rw[F];dsimp only;refine a_ (t4 I hd (a_ (GP (x:=K) (y:=K) hu (u _ (e_ l)) f (a_ (t4 I hd ?_)))));rw[ge (by simp),gn (il rfl)];exact a_ (si (eH (n i p l)))
 have M:∀a,g=.ref a->¬(m.any λe=>e.key==g&&e.hash !=hU P w k)=true:=by intro a ea;rw[<-Array.any_toList,he,Nc];rintro⟨e,ax,hc⟩;obtain⟨y,H,rfl⟩:=ig.mp ax;simp only[rp,k4,beq_iff_eq,bne_iff_ne,ne_eq]at hc;have h3:=u y H;rw[hc.1]at h3;exact hc.2 (by rw[h3.inj f])
 by_cases D:((g::stored).all carriedByValue)=true
 ·rw[gn D]
  split
  ·rename_i z t
   split
   ·rename_i hz;exact G z t rfl hz
   ·exact plain
  ·exact plain
 ·rw[ge D];have U:(∃i t,g=.int i t)\/(∃z t,g=.str z t)\/(∃a,g=.ref a)\/g=.none:=by
   cases k with|inl k=>
    rcases f.flat with⟨i,t,e,_⟩|⟨z,t,e,_⟩
    ·exact .inl ⟨i,t,e⟩
    ·exact .inr (.inl ⟨z,t,e⟩)|inr ks=>cases ks with|nil=>exact .inr (.inr (.inr f))|cons k ks=>obtain⟨a,e,_⟩:=f;exact .inr (.inr (.inl ⟨a,e⟩))
  have V:∀(x:Nat)(p:Value×Value),B[x]?=some (k,p)->∃e,m[x]?=some e/\e.hash=hU P w k/\iJ P w s.heap k e.key:=λx p l=>⟨_,by rw[q x,l];rfl,rfl,u _ (e_ l)⟩;have W:∀(x:Nat)(y:gy),B[x]?=some y->∃e,m[x]?=some e/\e.hash=hU P w y.1/\iJ P w s.heap y.1 e.key:=λx y l=>⟨_,by rw[q x,l];rfl,rfl,u _ (e_ l)⟩;rcases U with⟨i,t,e⟩|⟨z,t,e⟩|⟨a,e⟩|e
  case' inl=>subst e;dsimp only
  case' inr.inl=>
   subst e;dsimp only
   by_cases hz:(m.all λe=>isExactStrKey e.key)=true
   case pos=>rw[gn hz];exact G z t rfl hz
   case' neg=>rw[ge hz]
  case' inr.inr.inl=>subst e;dsimp only;rw[ge (M a rfl)]
  case' inr.inr.inr=>subst e;dsimp only
  all_goals refine Ma (λ_=>a_ (eH ?_)) (λ_=>a_ (GO f ad ?_))
  all_goals rw[ge (by simp)];refine a_ (wpAny_mono (Jp (P:=P) (w:=w) hn aa N al _ ?_ ?_) (λb s' z=>?_) λ_ _ z=>z)
  all_goals first
   |(obtain⟨b1,b2⟩:=b
     obtain⟨rfl,h⟩:=z;rcases h with⟨j,p,e,hj⟩|⟨e,h⟩
     ·cases e;exact eH (n j p hj)
     ·have e:b1=none:=e;subst e;rcases h with⟨e,h⟩|⟨j,p,e,hj⟩<;>(have e:b2=_:=e;subst e)
      ·exact eH (C h)
      ·exact eH (n j p hj))
   |(intro x p R ay l r1 r2
     obtain⟨e,X,Y,Z⟩:=V x p l;rw[X];dsimp only;rw[gn (by rw[Y];simp)];refine a_ (t4 I hd (a_ (GP (x:=k) (y:=k) hu Z f (a_ (t4 I hd ?_)))));rw[ge (by simp),gn (il rfl),ge (by simp)];refine a_ (si ?_)
     split
     ·exact eH r1
     ·exact eH r2)
   |(intro x a3 y R ay l hh a0 r
     obtain⟨e,X,Y,Z⟩:=W x y l;rw[X];dsimp only;rw[gn (by rw[Y,hh];simp)];refine a_ (t4 I hd (a_ (GP (x:=y.1) (y:=k) hu Z f (a_ (t4 I hd ?_)))));rw[ge (by simp),ge (by simp[a0])];refine a_ (si ?_);rw[ge (by simp)];exact eH r)
end
end L2
namespace L2
open PySem PySem.W PyProof.Rows
section
variable{P:N6}{w:World}{A:Around}{E:N2}{s:Shared}
def wJ{c:Type}{a:List (bC×c)}(hn:(a.map (·.1)).Nodup){j:Nat}{k:bC}{p:c}(hj:a[j]?=some (k,p)):a.find? (λx=>decide (x.1=k))=some (k,p):=by
 rw[List.find?_eq_some_iff_append];obtain⟨f,e⟩:=d_.mp hj;refine⟨il rfl,a.take j,a.drop (j+1),?_,λy g=>?_⟩
 ·rw[<-e,List.getElem_cons_drop,r_]
 ·obtain⟨i,hi⟩:=hQ.mp g;have b:i<j:=by have:=(d_.mp hi).1;rw[ji]at this;omega
  rw[MZ b]at hi;have:y.1≠k:=λz=>by
   have d:(a.map (·.1))[i]?=some k:=by rw[f_,hi,<-z];rfl
   have h:(a.map (·.1))[j]?=some k:=by rw[f_,hj];rfl
   have:=(K_ (d_.mp d).1 hn).mp (d.trans h.symm);lia
  simp[this]
def vC{c:Type}{d:List (bC×c)}{k:bC}(h:∀(j:Nat)(p:c),d[j]?≠some (k,p)):d.find? (λx=>decide (x.1=k))=none:=by rw[List.find?_eq_none];intro x b a;obtain⟨j,hj⟩:=hQ.mp b;have a:x.1=k:=i_ a;exact h j x.2 (by rw[hj,<-a])
structure fJ(P:N6)(w:World)(h:Heap)(d:Addr)(ys:List gy):Prop where ok:∃o es ep,h.get? d=some o/\o.ExactDict/\o.data=.dict es ep/\es.toList=ys.map (rp P w)nd:(ys.map (·.1)).Nodup
def eE{c a:Type}(d:List (bC×c×a))(k:bC):Option a:=(d.find? λy=>decide (y.1=k)).map (·.2.2)
def cX{a c:Type}(d:List (bC×a×c))(k:bC)(e:a)(v:c):List (bC×a×c):=if(eE d k).isSome then d.map λy=>if y.1=k then(y.1,y.2.1,v)else y else d++[(k,e,v)]
def HL{d:Addr}{e:List gy}{k:bC}{c:Value}{Q:Option Value->Shared->Prop}(g:A.units<cLine)(a:iJ P w s.heap k c)(hm:fJ P w s.heap d e)(f:∀x∈e,iJ P w s.heap x.1 x.2.1)(q:Q (eE e k) {s with toks:=s.toks+iY k}):wpAny (model P w) A (dictGet d c) Q E s:=by
 obtain⟨o,i,l,b,hc,hd,h⟩:=hm.ok;unfold dictGet
 with_reducible refine l_ ?_
 refine a_ (Ek g a (a_ (El (s:={s with toks:=s.toks+iY k}) g a b hd h f hm.nd (λno=>?_) λj p hj=>?_)))
 ·unfold eE at q;rw[vC no]at q;exact eH q
 ·unfold eE at q;rw[wJ hm.nd hj]at q;refine a_ (wpAny_dictEntries (s:={s with toks:=s.toks+iY k}) b hd ?_);rw[K6 h j,hj];exact eH q
def Jq(a:List (bC×d×c))(k:bC)(v:c):(a.map λy=>if y.1=k then(y.1,y.2.1,v)else y).map (·.1)=a.map (·.1):=by
 rw[rx];refine C_ λy _=>?_;show(if y.1=k then(y.1,y.2.1,v)else y).1=y.1
 split<;>rfl
def HK{d:Addr}{f:List gy}{k:bC}{c v:Value}{Q:Unit->Shared->Prop}(t:A.units<cLine)(g:iJ P w s.heap k c)(hm:fJ P w s.heap d f)(m:∀x∈f,iJ P w s.heap x.1 x.2.1)(hz:f.length<sizeLine)(q:∀h',fJ P w h' d (cX f k c v)->Heap.SameBut d s.heap h'->Q () {s with heap:=h',toks:=s.toks+iY k}):wpAny (model P w) A (dictSet d c v) Q E s:=by
 obtain⟨o,F,u,h,hc,hd,l⟩:=hm.ok;unfold dictSet
 with_reducible refine l_ ?_
 refine a_ (Ek t g ?_);unfold dictSetHashed
 with_reducible refine l_ ?_
 refine a_ (El (s:={s with toks:=s.toks+iY k}) t g h hd l m hm.nd (λno=>?_) λj p hj=>?_)
 ·have n:cX f k c v=f++[(k,c,v)]:=by unfold cX eE;rw[vC no];rfl
  have B:k∉f.map (·.1):=λz=>by obtain⟨y,C,e⟩:=ig.mp z;obtain⟨j,hj⟩:=hQ.mp C;exact no j y.2 (by rw[hj,<-e])
  rw[n]at q;refine a_ (si (wpAny_updateDictKeys (hz:=by have:=Ei l;omega) (s:={s with toks:=s.toks+iY k}) h hd (q _ ⟨⟨_,_,u+1,p_ _ h (Obj.isFreed_of_dict (Obj.data_mapDictKeys hd _)),hc.mapDictKeys _,Obj.data_mapDictKeys hd _,?_⟩,?_⟩ (vr ..))))
  ·rw[NM,l,gg];rfl
  ·rw[gg,n7];refine⟨hm.nd,by simp,λa D b r e=>B ?_⟩;have r:b=k:=List.mem_singleton.mp r;rw[<-r,<-e];exact D
 ·have n:cX f k c v=f.map λy=>if y.1=k then(y.1,y.2.1,v)else y:=by unfold cX eE;rw[wJ hm.nd hj];rfl
  rw[n]at q;refine a_ (si (a_ (wpAny_updateDict (s:={s with toks:=s.toks+iY k}) h hd (wpAny_point (q _ ⟨⟨_,_,u,p_ _ h (Obj.isFreed_of_dict (Obj.data_mapDict hd _)),hc.mapDict _,Obj.data_mapDict hd _,?_⟩,by rw[Jq];exact hm.nd⟩ (vr ..))))));rw[Array.toList_modify,l];refine sT λi=>?_;rw[List.getElem?_modify,f_,f_,f_];cases hi:f[i]?with|none=>by_cases e:j=i<;>simp[e]|some y=>
   by_cases e:j=i
   ·subst e;rw[hj]at hi;cases hi;simp[rp]
   ·have:y.1≠k:=λz=>e (Ej hm.nd hj (q:=y.2) (by rw[hi,<-z]));simp[e,this]
def fJ.type(hm:fJ P w s.heap d c):s.TypeIs (.ref d) "dict":=let⟨o,_,_,a,hc,_⟩:=hm.ok;⟨o,a,hc.1⟩
def fJ.bare(hm:fJ P w s.heap d c):∀b,Value.ref d=.ref b->∃ob,s.heap.get? b=some ob/\ob.dict=none:=λb e=>by cases e;obtain⟨o,_,_,a,hc,_⟩:=hm.ok;exact⟨o,a,hc.2.1⟩
def zT(d:Addr)(a dflt:Value)(hd:(d==sysModules)=false):MeetsIn P w (Builtin.«dict.get» ⟨[.ref d,a,dflt],[]⟩) (λA R s=>A.in1.units<cLine/\∃k c,iJ P w s.heap k a/\fJ P w s.heap d c/\(∀x∈c,iJ P w s.heap x.1 x.2.1)/\R (.ok (.ret ((eE c k).getD dflt))) {s with toks:=s.toks+iY k}):=.of_wp λA R s⟨e,k,c,f,hm,hi,h⟩=>by show wpAny (model P w) _ (dictGet d a>>=_) _ _ s;refine a_ (HL e f hm hi ?_);cases b:eE c k with|some v=>rw[b]at h;exact eH ⟨v,rfl,h⟩|none=>rw[b]at h;exact a_ (wpAny_missed_other hd (eH ⟨dflt,rfl,h⟩))
def BY(g:A.in1.units<cLine)(c:iJ P w s.heap k a)(hm:fJ P w s.heap d e)(f:∀x∈e,iJ P w s.heap x.1 x.2.1)(hz:e.length<sizeLine)(q:∀h',fJ P w h' d (cX e k a v)->Heap.SameBut d s.heap h'->Q () {s with heap:=h',toks:=s.toks+iY k}):wpAny (model P w) A (setItem (.ref d) a v) Q E s:=by
 unfold setItem
 with_reducible refine l_ ?_
 refine a_ (NE hm.type (by decide) (a_ (nk (name:=Str.ofString "__setitem__") hm.type slot_dict_setitem (m3 slot_dict_setitem hm.type entry_dict_setitem ?_ (args_dict_setitem _ _ _)))));show wpAny (model P w) _ (Builtin.Dict.notOrdered "__setitem__" ⟨[.ref d,a,v],[]⟩>>=_) _ _ s;refine a_ (wpAny_notOrdered_dict hm.type ?_);show wpAny (model P w) A.in1 (dictSet d a v>>=_) _ _ s;exact a_ (HK g c hm f hz λh' h1 h2=>eH ⟨.none,rfl,eH (q h' h1 h2)⟩)
end
abbrev eX:=bC×V×V
def kC(a:List eX)(c:List gy):Prop:=Paired (λ(p:eX)(q:gy)=>p.1=q.1/\aY p.2.1 q.2.1/\aY p.2.2 q.2.2) a c
abbrev dM(P:N6)(w:World)(d:Addr)(c:List eX):HO:=.ext λh=>(d==sysModules)=false/\∃a,kC c a/\fJ P w h d a
def cS(K:N1)(H:Hp)(k:bC)(v:V):Prop:=match k with|.inl k=>v=kV k|.inr []=>v=.non|.inr (k::b)=>∃a,v=.ref a/\bd K H a ((k::b).map kV)
def dQ(K:N1)(H:Hp)(a:List eX):Prop:=∀x∈a,cS K H x.1 x.2.1
def fJ.keep(m:fJ P w h1 d a)(k:∀o,h1.get? d=some o->h2.get? d=some o):fJ P w h2 d a:=let⟨o,b,c,e,r⟩:=m.ok;⟨⟨o,b,c,k o e,r⟩,m.nd⟩
def EZ(hd:(d==sysModules)=false)(r:kC a ys)(m:fJ P w h d ys):dk P w H h d (dM P w d a):=⟨⟨hd,ys,r,m⟩,let⟨o,_,_,e,_⟩:=m.ok;⟨o,e⟩,λ_ _⟨h1,ys,h2,h3⟩k=>⟨h1,ys,h2,h3.keep k⟩⟩
def cS.is(I:aN X f l H s)(h:cS X.K H k v)(r:aY v u):iJ X.prog X.w s.heap k u:=by cases k with|inl k=>have h:v=kV k:=h;subst h;exact oX r|inr b=>cases b with|nil=>have h:v=.non:=h;subst h;exact r|cons k b=>obtain⟨a,rfl,g⟩:=h;cases r;obtain⟨i,j,⟨o,e,c,n,d⟩,_⟩:=I.tuple g;exact⟨a,rfl,o,_,n,e,c,d,pZ j⟩
theorem kC.keys(I:aN X c g H s):∀{d:List eX}{e:List gy},kC d e->dQ X.K H d->∀y∈e,iJ X.prog X.w s.heap y.1 y.2.1
 |_,_,.nil,_,y,b=>nomatch b|_,_,.cons (a:=p) r t,k,y,b=>by
  rcases ot.mp b with rfl|b
  ·rw[<-r.1];exact(k p hF).is I r.2.1
  ·exact kC.keys I t (λx f=>k x (g_ _ f)) y b
theorem kC.val:∀{a:List eX}{c:List gy},kC a c->∀k,jK (eE a k) (eE c k)
 |_,_,.nil,_=>True.intro|p::a,q::c,.cons r t,k=>by
  unfold eE;rw[o8,o8,<-r.1]
  by_cases e:p.1=k
  ·rw[il e];exact r.2.2
  ·rw[iA e];exact kC.val t k
def kC.put(h:kC c d)(g:aY i j)(f:aY v u):kC (cX c k i v) (cX d k j u):=by
 have a:(eE c k).isSome=(eE d k).isSome:=(h.val k).isSome_eq;unfold cX;rw[a]
 split
 ·rename_i hc;clear a hc
  induction h with|nil=>exact .nil|@cons p q l m r t b=>
   refine .cons ?_ b;dsimp only;rw[<-r.1]
   by_cases e:p.1=k
   ·rw[gn e,gn e];exact⟨rfl,r.2.1,f⟩
   ·rw[ge e,ge e];exact r
 ·rename_i hc;clear a hc
  induction h with|nil=>exact .cons ⟨rfl,g,f⟩ .nil|cons r t b=>exact .cons r b
def kC.len(h:kC a c):a.length=c.length:=Paired.length h
section
variable{X:Cx}{P:N6}{w:World}{o e f:Expr}{n g c:Pos}{j ty l:TE}
def Ir(P:N6)(w:World):TE:=λ_ H Q=>∀p,H p=none->Q (.ref p) (aJ H p (dM P w p []))
def DL(d:X.prog=P:=by rfl)(i:X.w=w:=by rfl):PE X (.Dict [] [] n) (Ir P w):=λb s k H Q I h=>by subst d i;refine wpAny_Dict_empty ⟨.ref s.heap.objs.size,_,I.laid (a:=s.heap.objs.size) (o:=dM X.prog X.w s.heap.objs.size []) (t':=s.toks) (λ_ _ q=>c_ _ q) (eN _) ?_,rfl,h _ (I.hok.fresh (eN _))⟩;exact EZ (ys:=[]) (to.mpr λz=>absurd (z▸I.big) (nn _)) .nil ⟨⟨_,#[],0,fy _ rfl,⟨rfl,rfl,rfl⟩,rfl,rfl⟩,J_⟩
def Ip(K:N1)(P:N6)(w:World)(j ty l:TE):TE:=λd H Q=>j d H λx m=>∃a h,x=.ref a/\m a=some (dM P w a h)/\ty d m λy p=>l d p λz b=>∃i k,b a=some (dM P w a i)/\dQ K b i/\cS K b k y/\Q ((eE i k).getD z) b
def DK(K:N1)(B:X.K=K)(C:X.A.units+1<cLine)(D:PE X o j)(E:PE X e ty)(G:PE X f l)(m:M2 X o "get" g e f c)(J:X.prog=P:=by rfl)(L:X.w=w:=by rfl):PE X (.Call (.Attribute o "get" g) [e,f] [] c) (Ip K P w j ty l):=by subst J L B;intro b s r H Q I h;refine I_ m.base m.few m.line PySem.F.plainAttrs_dict PySem.F.slot_dict_get PySem.F.type_dict_get (cw (D b s r H _ I h) λu M i=>?_);obtain⟨x,N,I1,O,a,R,ex,d,S⟩:=i;subst ex;cases(show u=Value.ref a from O);obtain⟨⟨_,T,_,t⟩,_⟩:=I1.hok a _ d;refine⟨t.type,t.bare,?_⟩;rw[m.trees];refine pa rfl (so (oa (cw (E b M r N _ I1 S) λiv U i=>?_)));obtain⟨y,V,Y,Z,q2⟩:=i;refine oa (cw (G b U r V _ Y q2) λfv s3 i=>?_);obtain⟨z,H3,q,rz,xs,k,d3,ks,hk,q3⟩:=i;refine rV ?_;obtain⟨⟨hd,ys,p,v⟩,_⟩:=q.hok a _ d3;refine wr PySem.F.slot_dict_get v.type PySem.F.entry_dict_get (PySem.F.args_dict_get_3 _ _ _) (zT a iv fv hd) ⟨C,k,ys,hk.is q Z,v,p.keys q ks,?_⟩;exact⟨_,H3,q.tok _,(p.val k).getD rz,q3⟩
def KO(K:N1)(P:N6)(w:World):Hs:=λo i v H Q=>∃a b k,o=.ref a/\H a=some (dM P w a b)/\dQ K H b/\cS K H k i/\b.length<sizeLine/\Q (aJ H a (dM P w a (cX b k i v)))
def Dx(K:N1)(x:X.K=K)(y:X.A.units+1<cLine)(z:X.prog=P:=by rfl)(B:X.w=w:=by rfl):Hv X (KO K P w):=by subst z B x;intro p s J H o i v L iv u Q I C r D h;obtain⟨a,M,k,rfl,d,E,F,hz,q⟩:=h;cases C;obtain⟨⟨hd,N,b,m⟩,_⟩:=I.hok a _ d;refine BY y (F.is I r) m (b.keys I E) (by rw[<-b.len];exact hz) λh' t G=>?_;refine⟨_,rS I (by rw[d];exact True.intro) G (let⟨o,_,_,e,_⟩:=t.ok;⟨o,e⟩) ?_,q⟩;exact EZ hd (b.put r D) t
end
end L2
namespace L2
open PySem PySem.W PyProof.Rows
section
variable{X:Cx}{o e c:Expr}{f:Str}{j g:Pos}{l m:TE}
def aI(K:N1)(a:X.K=K)(d:PE X e l)(h:attributeBase e f X.env (eval e X.env)=eval e X.env:=by rfl):PE X (.Attribute e f j) (Ky K l f):=by subst a;exact Jc d h
def cG(K:N1)(a:X.K=K)(d:PE X o l)(h:PE X c m)(i:swapsWith c (some (.Attribute o f g)) j.line X.env=pure false:=by rfl):PS X (.Assign [.Attribute o f g] c j) (KL K l m f):=by subst a;exact IX d h i
def KQ:Hs:=λo i v H Q=>∃a b k,o=.ref a/\i=kV k/\H a=some (.dK b)/\b.length<sizeLine/\Q (aJ H a (.dK (fe b k v)))
def pG(n:X.A.units+1<cLine):Hv X KQ:=by intro b s y H o i v z iv u Q I p r t h;obtain⟨a,w,k,rfl,rfl,d,hz,q⟩:=h;cases p;exact Cj n I (Hz.k d hz) r t λB x=>⟨_,x,q⟩
end
end L2
namespace L2
open PySem PySem.W PyProof.Rows
section
variable{P:N6}{w:World}{A:Around}{E:N2}{s:Shared}
def EM(ty:s.TypeIs (.ref r) "list_reverseiterator")(q:Q false s):wpAny (model P w) A (Builtin.List.listLengthHint (.ref r)) Q E s:=by
 unfold Builtin.List.listLengthHint;refine a_ (Nh (r:=none) ty (by rw[Ni,Ms];kernel_rfl) ?_);refine qq (λz=>absurd z (by decide+kernel)) (λ_=>?_);refine qq (λz=>absurd z (by decide)) (λ_=>?_);refine a_ (Nh (r:=some (.builtin "list_reverseiterator.__length_hint__")) ty (by rw[Ni,Ms];kernel_rfl) ?_);generalize a:("list_reverseiterator.__length_hint__":String)=nm
 wp_delta
 rw[show splitId nm=some ("list_reverseiterator","__length_hint__")from by subst a;decide+kernel];subst a;refine a_ (Mv (T:="list_reverseiterator") (b:=true) ty (by rw[Nt];kernel_rfl) ?_);refine qq (λz=>absurd z (by decide)) (λ_=>?_);refine qq (λ_=>?_) (λz=>absurd (by decide+kernel) z);refine qq (λz=>absurd z (by decide+kernel)) (λ_=>?_);exact eH q
def zC(hh:A.handled=none)(p:s.heap.IsRevIter r l ((a.size:Int)-1))(hl:s.heap.IsList l a)(hn:a.size<=sizeLine)(t:l≠r)(n:S≠r)(u:S≠l)(d:Value)(y:Nat)(D:s.heap.get? S=some {cls:=.type "list",data:=.seq #[] y})(q:∀h' tk g c,(∀b o,b≠S->b≠r->s.heap.get? b=some o->h'.get? b=some o)->h'.get? S=some {cls:=.type "list",dict:=none,data:=.seq g c,slots:=#[]}->ItemsOf (λi v=>a[a.size-1-i]?=some v) g a.size->R (.ok (.ret d)) {s with heap:=h',toks:=tk}):wpAny (model P w) A.in1 (Builtin.List.listExtendWith (.ref S) (.ref r) d) (λfin j=>match fin with|.done f=>R (.ok f) j|.again B=>B.quiet=true/\codeAny (model P w) A B R j) (λe j=>R (.error e) j) s:=by
 have W:=Walks.listRev (prog:=P) (w:=w) (A:=A.in1) hh r l t a;have go:∀(h:Heap)(k tk:Nat),h.IsRevIter r l ((a.size:Int)-1)->h.IsList l a->(∀b o,b≠S->s.heap.get? b=some o->h.get? b=some o)->h.get? S=some {cls:=.type "list",data:=.seq #[] k}->codeAny (model P w) A (.builtin "list.extend.loop" ⟨[.ref S,.ref r,d],[]⟩) R {s with heap:=h,toks:=tk}:=by
  intro h k tk x G H I;refine codeAny_extend_loopS W.toS hn S (by simp[n,u]) d a.size 0 _ #[] k rfl (j1 _) ⟨j1 _,by simpa using x,G⟩ I (ItemsOf.nil _) λj g c C J K=>?_;rw[Moved.eq_with C];refine q j.heap j.toks g c (λb o b1 b2 e=>C.heap b o (λm=>?_) (H b o b1 e)) J K;rcases ot.mp m with z|z
  ·exact b1 z
  ·exact b2 (List.mem_singleton.mp z)
 unfold Builtin.List.listExtendWith;refine a_ (MN p.typeIs ?_);have ne:Builtin.List.listSameRef (.ref S) (.ref r)=false:=by simp[Builtin.List.listSameRef,n]
 have L:(Value.type "list_reverseiterator"==Value.type "list")=false:=by decide
 have M:(Value.type "list_reverseiterator"==Value.type "tuple")=false:=by decide
 simp only[ne,L,M,Bool.or_false,G_,M6];refine a_ (wpAny_pyIter_revIter p (a_ (l_ (EM p.typeIs ?_))));refine qq (λz=>absurd z (by decide+kernel)) (λ_=>eH ⟨x_ PySem.F.plain_extend_loop _,go s.heap y s.toks p hl (λ_ _ _ e=>e) D⟩)
def DB(hh:A.handled=none)(u:s.heap.IsRevIter r l ((items.size:Int)-1))(hl:s.heap.IsList l items)(hn:items.size<=sizeLine)(f:l≠r)(q:∀h' tk a c,(∀b o,b≠r->s.heap.get? b=some o->h'.get? b=some o)->h'.get? s.heap.objs.size=some {cls:=.type "list",dict:=none,data:=.seq a c,slots:=#[]}->ItemsOf (λi v=>items[items.size-1-i]?=some v) a items.size->Q (.ref s.heap.objs.size) {s with heap:=h',toks:=tk}):wpAny (model P w) A (call (.type "list") [.ref r]) Q E s:=by
 refine callType_codes (Q₁:=λobj k=>obj=.ref s.heap.objs.size/\k={s with heap:=s.heap.push {cls:=.type "list",data:=.seq #[]}}) PySem.F.called_list (PySem.F.typeCall_list_1 _) PySem.F.entry_list_init (code_list_new _ ⟨rfl,rfl⟩) λobj k z=>?_;obtain⟨rfl,rfl⟩:=z;have new:(s.heap.push {cls:=.type "list",data:=.seq #[]}).get? s.heap.objs.size=some {cls:=.type "list",data:=.seq #[]}:=fy _ rfl;obtain⟨x,m,y,B⟩:=u;have n:s.heap.objs.size≠r:=lm (gV m);obtain⟨C,p,cl,D,dl⟩:=hl;have t:s.heap.objs.size≠l:=lm (gV p);refine⟨⟨_,new,rfl⟩,PySem.F.args_list_init_2 _ _,?_⟩;show wpAny (model P w) _ (do let g<-Builtin.List.listItems (.ref s.heap.objs.size);Builtin.List.listUpdate (.ref s.heap.objs.size) (λ_=>#[]);letGo g.toList.reverse;Builtin.List.listExtendWith (.ref s.heap.objs.size) (.ref r) .none) _ _ _;refine a_ ?_;unfold Builtin.List.listItems;refine a_ (qc new rfl (eH (a_ (NT new rfl (a_ (wpAny_letGo ?_))))));have d:=p_ (Obj.mapSeq (λ_=>(#[]:N9))) new rfl;have keep:∀b o,b≠s.heap.objs.size->s.heap.get? b=some o->((s.heap.push {cls:=.type "list",data:=.seq #[]}).update s.heap.objs.size (Obj.mapSeq (λ_=>(#[]:N9)))).get? b=some o:=λb o h e=>by rw[ry _ _ (mu h)];exact c_ _ e
 refine zC (A:=A.in1) hh ⟨x,keep _ _ (mu n) m,y,B⟩ ⟨C,keep _ _ (mu t) p,cl,D,dl⟩ hn f n t .none _ d λh' tk a c G H I=>?_;exact⟨rfl,q h' tk a c (λb o h e=>G b o (h_ (gV e)) h (keep b o (h_ (gV e)) e)) H I⟩
end
section
variable{X:Cx}{e:Expr}{te:TE}{i g f d:Pos}
def Kr(K:N1)(te:TE):TE:=λc H Q=>te c H λx a=>∃p b,x=.ref p/\aX K a p b/\∀l,a l=none->Q (.ref l) (aJ a l (.lst b.reverse))
def zG(K:N1)(Z:X.K=K)(hc:X.calm=true)(g1:Gl X "list")(m1:X.mg "list"=none)(g2:Gl X "reversed")(m2:X.mg "reversed"=none)(he:PE X e te)(B:starEach [.Call (.Name "reversed" g) [e] [] d] X.env=[(false,eval (.Call (.Name "reversed" g) [e] [] d) X.env)]:=by rfl)(C:starEach [e] X.env=[(false,eval e X.env)]:=by rfl):PE X (.Call (.Name "list" i) [.Call (.Name "reversed" g) [e] [] d] [] f) (Kr K te):=by
 subst Z;intro y s M H Q I h;refine qx (kQ I g1 m1 L2.vT (callWith_type1 ?_ B));rw[B];show wpAny (model X.prog X.w) X.A (spliced [(false,eval (.Call (.Name "reversed" g) [e] [] d) X.env)]) _ _ s;refine oa (qx (kQ I g2 m2 L2.u5 (callWith_type1 ?_ C)));rw[C];show wpAny (model X.prog X.w) X.A (spliced [(false,eval e X.env)]) _ _ s;refine oa (cw (he y s M H _ I h) λu m U=>?_);obtain⟨x,V,I1,Y,p,xs,ex,hq,q⟩:=U;refine rV ?_;subst ex;cases(show u=Value.ref p from Y);obtain⟨k,N,⟨o,n,E,co,dd,ds⟩,hz⟩:=I1.list hq;have hl:m.heap.IsList p k.toArray:=⟨o,E,co,n,ds⟩;refine call_reversed_list hl (rV ?_);have pr:p≠m.heap.objs.size:=h_ (gV E);have O:aN X y M V {m with heap:=m.heap.push (revObj p ((k.toArray.size:Int)-1))}:=I1.kept (t':=m.toks) λb o e=>c_ _ e;refine DB (r:=m.heap.objs.size) (l:=p) (items:=k.toArray) (I.ok.hd hc) ⟨_,fy _ rfl,rfl,rfl⟩ ⟨o,c_ _ E,co,n,ds⟩ (by simpa[<-N.length]using hz) pr λh' tk t c kk sS R=>?_;have D:t.toList=k.reverse:=by
  refine sT λj=>?_;have G:t.size=k.length:=by simpa using R.1
  rcases Ng j k.length with hj|hj
  ·have S:t[j]?=some (t[j]'(by lia)):=r4 _;have J:=R.2 j _ S;rw[sg,S,List.getElem?_reverse hj];simpa using J.symm
  ·rw[lh (by simpa[G]using hj),lh (by simpa using hj)]
 have I3:=O.laid (a:=(m.heap.push (revObj p ((k.toArray.size:Int)-1))).objs.size) (o:=.lst xs.reverse) (h':=(m.heap.push (revObj p ((k.toArray.size:Int)-1))).push {cls:=.type "list",data:=.seq t c}) (t':=tk) (λb u e=>c_ _ e) (eN _) ⟨by rw[ML];exact hz,k.reverse,c,N.reverse,by rw[<-D];exact fy _ rfl⟩
 have L:m.heap.objs.size<(m.heap.push (revObj p ((k.toArray.size:Int)-1))).objs.size:=by rw[ni];lia
 have I4:=I3.turned (it:=m.heap.objs.size) (h':=h') (t':=tk) (λb o hb e=>?_) (by rw[ao (h_ L)];exact I1.hok.fresh (eN _)) (lm I1.lt) (.inr I1.sz) (λx c e z=>by obtain⟨v,o,T,_⟩:=I1.cell x c e;rw[z]at T;exact absurd (gV T) (nn _)) (λpp hp z=>by have:=(I1.pin pp hp).1;rw[z]at this;exact absurd (gV this) (nn _))
 ·exact⟨.ref (m.heap.push (revObj p ((k.toArray.size:Int)-1))).objs.size,_,I4,rfl,q _ (O.hok.fresh (eN _))⟩
 ·by_cases z:b=(m.heap.push (revObj p ((k.toArray.size:Int)-1))).objs.size
  ·subst z;rw[fy _ rfl]at e;cases e;exact sS
  ·rcases ME e with⟨z2,_⟩|J
   ·exact absurd z2 z
   ·exact kk b o hb J
end
end L2
namespace L2
open PySem PySem.W PyProof.Rows
section
variable{P:N6}{w:World}{A:Around}{E:N2}{s:Shared}
def BZ{d:Addr}{e:List gy}{k:bC}{a v:Value}{Q:N2}(g:A.in1.units<cLine)(c:iJ P w s.heap k a)(hm:fJ P w s.heap d e)(f:∀x∈e,iJ P w s.heap x.1 x.2.1)(h:eE e k=some v)(q:Q v {s with toks:=s.toks+iY k}):wpAny (model P w) A (getItem (.ref d) a) Q E s:=by
 unfold getItem
 with_reducible refine l_ ?_
 refine a_ (NE hm.type (by decide) (a_ (nk (name:=Str.ofString "__getitem__") hm.type slot_dict_getitem (m3 slot_dict_getitem hm.type entry_dict_getitem ?_ (args_dict_getitem _ _)))));show wpAny (model P w) A.in1 (dictGet d a>>=_) _ _ s;refine a_ (HL g c hm f ?_);rw[h];exact eH ⟨v,rfl,eH q⟩
end
section
variable{X:Cx}{P:N6}{w:World}{o e f i:Expr}{g l j:Pos}{c ty n:TE}
def LV(K:N1)(P:N6)(w:World)(c ty:TE):TE:=λh H Q=>c h H λx m=>ty h m λy b=>∃a d k v,x=.ref a/\b a=some (dM P w a d)/\dQ K b d/\cS K b k y/\eE d k=some v/\Q v b
def Jb(K:N1)(C:X.K=K)(D:X.A.units+1<cLine)(E:PE X o c)(hi:PE X i ty)(G:J2 i)(J:X.prog=P:=by rfl)(L:X.w=w:=by rfl):PE X (.Subscript o i g) (LV K P w c ty):=by subst J L C;intro b s B H Q I h;refine Ay PySem.F.slot_dict_getitem.lookup G (cw (E b s B H _ I h) λu M r=>?_);obtain⟨x,N,I1,O,R⟩:=r;refine cw (hi b M B N _ I1 R) λiv s2 r=>?_;obtain⟨y,S,q,T,a,xs,k,v,ex,d,U,V,Y,Z⟩:=r;subst ex;obtain rfl:u=Value.ref a:=O;obtain⟨⟨hd,ys,p,m⟩,_⟩:=q.hok a _ d;obtain⟨w',t,z⟩:=jK.some_of (v:=v) (o:=eE ys k) (by rw[<-Y];exact p.val k);exact⟨m.type,BZ D (V.is q T) m (p.keys q U) t ⟨v,S,q.tok _,z,Z⟩⟩
end
end L2
namespace L2
open PySem
seal L2.uA L2.PS L2.PE L2.PT L2.PA L2.PI L2.PG L2.PW L2.J0 L2.PO
section
variable{X:Cx}
end
section
variable{X:Cx}
def Cq:db X (.builtin "isinstance") (λc H Q=>∃x T t b,c=[x,.ty T]/\(lZ X.K H x t\/∃p d,x=.ref p/\bd X.K H p d/\t=.type "tuple")/\PySem.W.kitOne X.K t (.type T)=some b/\Q (.bl b) H):=by
 intro a s f H c g Q I r h;obtain⟨x,T,t,b,rfl,ty,e,q⟩:=h;rcases ty with ty|⟨p,d,rfl,i,rfl⟩
 ·exact yX a s f H _ g Q I r ⟨x,T,t,b,rfl,ty,e,q⟩
 ·obtain⟨u,j,rfl,k,rt⟩:=r6 r;obtain rfl:j=Value.type T:=rt;cases k;obtain⟨l,_,⟨o,h1,h2,_⟩,_⟩:=I.tuple i;exact PySem.W.kia_one PySem.W.kitx_tuple I.kIn ⟨o,h1,h2⟩ e (nofun) λtk=>⟨.bl b,H,I.tok tk,rfl,q⟩
def eW(K:N1)(a:X.K=K):db X (.builtin "isinstance") (λc H Q=>∃x T t b,c=[x,.ty T]/\(lZ K H x t\/∃p d,x=.ref p/\bd K H p d/\t=.type "tuple")/\PySem.W.kitOne K t (.type T)=some b/\Q (.bl b) H):=by subst a;exact Cq
end
end L2
namespace L2
open PySem PySem.Spec PyProof.Rows
section
variable{X:Cx}{a:Expr}
end
section
variable{X:Cx}
end
end L2
namespace L2
open PySem PySem.Spec PyProof.Rows
def Hx(K:N1)(pm:Params)(a:Addr):Prop:=(a==sysModules)=false/\∃b n,K.lookup a=some ⟨.type "dict",none,.dict b n,#[]⟩/\PySem.W.KeysLit pm b.toList
def LM(K:N1)(t:Addr)(c:List V):Prop:=∃(o:Obj)(a:N9)(n:Nat),K.lookup t=some o/\o.cls=.type "tuple"/\o.data=.seq a n/\a.size<=sizeLine/\be c a.toList
def LM.sq{K:N1}{t:Addr}{a:List V}(h:LM K t a)(H:Hp):bd K H t a:=.inr h
section
variable{X:Cx}{o i:Expr}{a:Pos}{c ty:TE}
end
end L2
namespace L2
open PySem PySem.Spec PyProof.Rows
section
variable{X:Cx}{o i:Expr}{a:Pos}{c ty:TE}
end
end L2
namespace L2
open PySem PySem.Spec PyProof.Rows
section
variable{P:N6}{w:World}{A:Around}{E:N2}{s:Shared}
def se(c:s.heap.IsTupleIter j t k)(f:s.heap.IsTuple t d)(h:d[k]?=some v)(q:∀g,g.IsTupleIter j t (k+1)->Heap.SameBut j s.heap g->Q v {s with heap:=g}):wpAny (model P w) A (Builtin.SmallTypes.nextOf (.ref j)) Q E s:=by obtain⟨ob,b,i,a⟩:=id c;obtain⟨l,f1,_,m,f3⟩:=f;unfold Builtin.SmallTypes.nextOf;refine a_ (nk (name:=Str.ofString "__next__") c.typeIs z8 (m3 z8 c.typeIs F.entry_tuple_iterator_next ?_ (NZ _)));refine(show wpAny _ _ (field (.ref j) 0>>=_) _ _ s from a_ (rd b a (x:=.ref t) rfl ?_));refine(show wpAny _ _ (if(Value.ref t==Value.none)=true then _ else(field (.ref j) 1>>=_)) _ _ s from ?_);rw[ge (show¬(Value.ref t==Value.none)=true fromλz=>hA z)];refine a_ (rd b a (x:=.int k 0) rfl ?_);refine(show wpAny _ _ (seqItems? (.ref t)>>=_) _ _ s from a_ (qc f1 f3 ?_));simp only[kt,h];refine a_ (wpAny_setField b a (by simp) (eH ⟨v,rfl,eH (q _ ⟨_,p_ _ b (Obj.isFreed_of_fields (Obj.data_mapFields a _)),(Obj.cls_mapFields ..).trans i,?_⟩ (vr ..))⟩));rw[Obj.data_mapFields a];simp[rawInt]
def xr(hh:A.handled=none)(c:s.heap.IsTupleIter j t k)(h:s.heap.IsTuple t d)(i:d[k]?=none)(q:∀g x,Heap.ExtBut j s.heap g->(∃ob,g.get? x=some ob/\ob.cls=.type "StopIteration")->E (.ref x) {s with heap:=g}):wpAny (model P w) A (Builtin.SmallTypes.nextOf (.ref j)) Q E s:=by
 obtain⟨ob,b,l,e⟩:=id c;obtain⟨n,f1,_,o,f3⟩:=h;unfold Builtin.SmallTypes.nextOf;refine a_ (nk (name:=Str.ofString "__next__") c.typeIs z8 (m3 z8 c.typeIs F.entry_tuple_iterator_next ?_ (NZ _)));refine(show wpAny _ _ (field (.ref j) 0>>=_) _ _ s from a_ (rd b e (x:=.ref t) rfl ?_));refine(show wpAny _ _ (if(Value.ref t==Value.none)=true then _ else(field (.ref j) 1>>=_)) _ _ s from ?_);rw[ge (show¬(Value.ref t==Value.none)=true fromλz=>hA z)];refine a_ (rd b e (x:=.int k 0) rfl ?_);refine(show wpAny _ _ (seqItems? (.ref t)>>=_) _ _ s from a_ (qc f1 f3 ?_));simp only[kt,i];refine a_ (si (a_ (wpAny_setField b e (by simp) (show wpAny _ _ (newExc (.type "StopIteration") []>>=_) _ _ _ from a_ ?_))));simp only[newExc,newTuple];refine a_ (np (a_ (m:=firstArgMember _ _) (wpAny_of_eq (a:=Value.none) (by first|rfl|(simp only[firstArgMember];rfl)) (np ?_ (by size_fits)))) (by size_fits));simp only[raiseNew];refine a_ (wpAny_handled ?_)
 first|rw[show A.in1.handled=none from hh]|rw[hh]
 exact a_ (eH (wpAny_throw (q _ _ (((vr ..).extBut.push _).push _) ⟨_,fy _ rfl,rfl⟩)))
def FM{b:Bool}{j t:Addr}{k:Nat}{a:N9}{v:Value}{Q:N2}(c:qw b s.heap j t k)(d:py b s.heap t a)(e:a[k]?=some v)(q:∀g,qw b g j t (k+1)->Heap.SameBut j s.heap g->Q v {s with heap:=g}):wpAny (model P w) A (Builtin.SmallTypes.nextOf (.ref j)) Q E s:=by cases b with|false=>exact se c d e q|true=>exact wpAny_nextOf_list_item c d e q
def Ft(z a d e:Addr)(h g:Heap):Prop:=∀c ob,c≠z->c≠a->c≠d->c≠e->h.get? c=some ob->g.get? c=some ob
def Bg{c:Bool}{z h d j m t l:Addr}{L M:Nat}{Z ys:N9}{x y a b:Value}{Q:N2}(D:ZipApart z h d j m t l)(B:IsZip s.heap z h d .none)(p1:IsPair s.heap h (.ref j) (.ref m))(p2:IsPair s.heap d a b)(i1:s.heap.IsTupleIter j t L)(i2:qw c s.heap m l M)(tt:s.heap.IsTuple t Z)(ll:py c s.heap l ys)(hx:Z[L]?=some x)(hy:ys[M]?=some y)(q:∀g,IsZip g z h d (rawInt s.heap.objs.size)->IsPair g d x y->g.IsTupleIter j t (L+1)->qw c g m l (M+1)->IsPair g s.heap.objs.size x y->g.objs.size=s.heap.objs.size+1->Ft z d j m s.heap g->Q (.ref s.heap.objs.size) {s with heap:=g}):wpAny (model P w) A (Builtin.«zip.__next__» ⟨[.ref z],[]⟩) (λfin s'=>∃v,fin=.done (.ret v)/\Q v s') E s:=by
 refine(show wpAny _ _ (field (.ref z) 2>>=_) _ _ _ from a_ (rd B rfl (x:=.bool false) rfl ?_));refine(show wpAny _ _ (field (.ref z) 3>>=_) _ _ _ from a_ (rd B rfl (x:=.ref h) rfl (a_ (qc p1 rfl ?_))));refine(show wpAny _ _ (Builtin.SmallTypes.ownedTupleIsFree (.ref z)>>=_) _ _ _ from a_ ?_);unfold Builtin.SmallTypes.ownedTupleIsFree;refine a_ (rd B rfl (x:=.none) rfl (eH ?_));simp only[NG];refine a_ (si (a_ (rd B rfl (x:=.ref d) rfl (a_ (op B (by simp) λg1 O k=>?_)))))
 replace O:IsZip g1 z h d .ellipsis:=O
 refine a_ ?_;simp only[List.zipIdx_cons,List.zipIdx_nil,Nm,List.forIn_nil];refine a_ (a_ (wpAny_onRaise (show wpAny _ _ (Builtin.SmallTypes.nextOf (.ref j)>>=_) _ _ _ from a_ (se (i1.extBut k.extBut D.i1z) (tt.extBut k.extBut D.l1z) hx λg2 R r=>eH ?_))));have C:IsPair g2 d a b:=r.extBut _ _ D.TOi1 (k.extBut _ _ D.TOz p2);refine a_ (qc C rfl (a_ (wpAny_updateSeq_pair C λg3 n u=>?_)))
 replace n:IsPair g3 d x b:=n
 refine a_ (wpAny_letGo (eH (a_ (a_ (wpAny_onRaise ?_)))));refine(show wpAny _ _ (Builtin.SmallTypes.nextOf (.ref m)>>=_) _ _ _ from a_ (FM (i2.at λ_ e=>u.extBut _ _ D.TOi2.symm (r.extBut _ _ D.i12.symm (k.extBut _ _ D.i2z e))) (ll.at λ_ e=>u.extBut _ _ D.l2TO (r.extBut _ _ D.l2i1 (k.extBut _ _ D.l2z e))) hy λg4 S F=>eH ?_))
 have G:IsPair g4 d x b:=F.extBut _ _ D.TOi2 n;refine a_ (qc G rfl (a_ (wpAny_updateSeq_pair G λf i H=>?_)))
 replace i:IsPair f d x y:=i
 refine a_ (wpAny_letGo (eH (eH (a_ (qc i rfl (a_ (wpAny_newTuple ?_)))))));have sz:f.objs.size=s.heap.objs.size:=by rw[H.1,F.1,u.1,r.1,k.1]
 have z5:IsZip f z h d .ellipsis:=H.extBut _ _ D.TOz.symm (F.extBut _ _ D.i2z.symm (u.extBut _ _ D.TOz.symm (r.extBut _ _ D.i1z.symm O)));have k5:Ft z d j m s.heap f:=λc o p K T U e=>H.extBut _ _ K (F.extBut _ _ U (u.extBut _ _ K (r.extBut _ _ T (k.extBut _ _ p e))));have V:f.IsTupleIter j t (L+1):=((R.extBut u.extBut D.TOi1.symm).extBut F.extBut D.i12).extBut H.extBut D.TOi1.symm;have W:qw c f m l (M+1):=S.at λ_ e=>H.extBut _ _ D.TOi2.symm e;have zl:z<f.objs.size:=gV z5;refine(show wpAny _ _ (Builtin.SmallTypes.ownedTupleHandOut (.ref z) (.ref f.objs.size)>>=_) _ _ _ from a_ ?_);unfold Builtin.SmallTypes.ownedTupleHandOut;have z6:IsZip (f.push {cls:=.type "tuple",data:=.seq #[x,y]}) z h d .ellipsis:=c_ _ z5;refine a_ (op z6 (by simp) λg7 X Y=>?_)
 replace X:IsZip g7 z h d (rawInt f.objs.size):=X
 refine op X (by simp) λI N s8=>?_
 replace N:IsZip I z h d (rawInt f.objs.size):=N
 have up:∀c ob,c≠z->f.get? c=some ob->I.get? c=some ob:=λc ob p e=>s8.extBut _ _ p (Y.extBut _ _ p (c_ _ e));have pn:IsPair I f.objs.size x y:=s8.extBut _ _ (lm zl) (Y.extBut _ _ (lm zl) (fy _ rfl));have J:I.objs.size=f.objs.size+1:=by rw[s8.1,Y.1,ni]
 rw[sz]at N pn J;refine eH ⟨_,rfl,(show Q (.ref f.objs.size) _ from ?_)⟩;rw[sz];exact q I N (up _ _ D.TOz i) (V.at λob e=>up _ ob D.i1z e) (W.at λob e=>up _ ob D.i2z e) pn J λc ob p K T U e=>up c ob p (k5 c ob p K T U e)
def Bf(hh:A.handled=none)(D:ZipApart z i h m p t l)(j:IsZip s.heap z i h .none)(B:IsPair s.heap i (.ref m) (.ref p))(S:IsPair s.heap h a b)(C:s.heap.IsTupleIter m t F)(G:s.heap.IsTuple t H)(I:H[F]?=none)(q:∀g e,Ft z h m p s.heap g->(∃ob,g.get? e=some ob/\ob.cls=.type "StopIteration")->E (.ref e) {s with heap:=g}):wpAny (model P w) A (Builtin.«zip.__next__» ⟨[.ref z],[]⟩) Q E s:=by
 refine(show wpAny _ _ (field (.ref z) 2>>=_) _ _ _ from a_ (rd j rfl (x:=.bool false) rfl ?_));refine(show wpAny _ _ (field (.ref z) 3>>=_) _ _ _ from a_ (rd j rfl (x:=.ref i) rfl (a_ (qc B rfl ?_))));refine(show wpAny _ _ (Builtin.SmallTypes.ownedTupleIsFree (.ref z)>>=_) _ _ _ from a_ ?_);unfold Builtin.SmallTypes.ownedTupleIsFree;refine a_ (rd j rfl (x:=.none) rfl (eH ?_));simp only[NG];refine a_ (si (a_ (rd j rfl (x:=.ref h) rfl (a_ (op j (by simp) λJ n o=>?_)))))
 replace n:IsZip J z i h .ellipsis:=n
 refine a_ ?_;simp only[List.zipIdx_cons,List.zipIdx_nil,Nm,List.forIn_nil];refine a_ (a_ (wpAny_onRaise (show wpAny _ _ (Builtin.SmallTypes.nextOf (.ref m)>>=_) _ _ _ from a_ (xr hh (C.extBut o.extBut D.i1z) (G.extBut o.extBut D.l1z) I λK e r L=>?_))));obtain⟨M,f,k⟩:=L;have u:IsZip K z i h .ellipsis:=r _ _ D.i1z.symm n;have N:e≠z:=λc=>by subst c;rw[u]at f;cases f;simp at k
 exact op u (by simp) λO _ v=>q O e (λc ob y _ R _ d=>v.extBut _ _ y (r _ _ R (o.extBut _ _ y d))) ⟨M,v.extBut _ _ N f,k⟩
def Bh{c:Bool}{z h d e f t l:Addr}{i j:Nat}{m n:N9}{x y a b:Value}{Q:Option Value->Shared->Prop}(D:ZipApart z h d e f t l)(o:IsZip s.heap z h d .none)(p:IsPair s.heap h (.ref e) (.ref f))(r:IsPair s.heap d a b)(u:s.heap.IsTupleIter e t i)(v:qw c s.heap f l j)(B:s.heap.IsTuple t m)(C:py c s.heap l n)(G:m[i]?=some x)(H:n[j]?=some y)(q:∀g,IsZip g z h d (rawInt s.heap.objs.size)->IsPair g d x y->g.IsTupleIter e t (i+1)->qw c g f l (j+1)->IsPair g s.heap.objs.size x y->g.objs.size=s.heap.objs.size+1->Ft z d e f s.heap g->Q (some (.ref s.heap.objs.size)) {s with heap:=g}):wpAny (model P w) A (pyNext (.ref z)) Q E s:=by have ty:s.TypeIs (.ref z) "zip":=⟨_,o,rfl⟩;unfold pyNext;refine a_ (MY (nk (name:=Str.ofString "__next__") ty No (m3 No ty F.entry_zip_next (Bg D o p r u v B C G H λg a1 I J a4 K L M=>?_) (F.args_zip_next_1 _))));exact eH (q g a1 I J a4 K L M)
def CC(hh:A.handled=none)(D:ZipApart z f c d h t l)(i:IsZip s.heap z f c .none)(m:IsPair s.heap f (.ref d) (.ref h))(n:IsPair s.heap c a b)(o:s.heap.IsTupleIter d t p)(r:s.heap.IsTuple t u)(v:u[p]?=none)(q:∀g,Ft z c d h s.heap g->Q none {s with heap:=g}):wpAny (model P w) A (pyNext (.ref z)) Q E s:=by have ty:s.TypeIs (.ref z) "zip":=⟨_,i,rfl⟩;unfold pyNext;refine a_ (MY (nk (name:=Str.ofString "__next__") ty No (m3 No ty F.entry_zip_next (Bf hh D i m n o r v λg e k x=>?_) (F.args_zip_next_1 _))));obtain⟨ob,h1,h2⟩:=x;exact a_ (Mv (T:="StopIteration") (b:=true) ⟨ob,h1,h2⟩ isSubtype_stop (eH (q g k)))
abbrev FD(h:Heap)(t:Addr):Heap:=h.push {cls:=.type "tuple_iterator",data:=.fields #[.ref t,.int 0 0]}
abbrev LF(c:Bool)(h:Heap)(t l:Addr):Heap:=(FD h t).push {cls:=.type (cond c "list_iterator" "tuple_iterator"),data:=.fields #[.ref l,.int 0 0]}
abbrev LE(c:Bool)(h:Heap)(t l:Addr):Heap:=(LF c h t l).push {cls:=.type "tuple",data:=.seq #[.ref h.objs.size,.ref (FD h t).objs.size]}
abbrev LD(c:Bool)(h:Heap)(t l:Addr):Heap:=(LE c h t l).push {cls:=.type "tuple",data:=.seq #[.none,.none]}
abbrev J5(c:Bool)(h:Heap)(t l:Addr):Heap:=(LD c h t l).push {cls:=.type "zip",data:=.fields #[.none,.bool false,.bool false,.ref (LF c h t l).objs.size,.ref (LE c h t l).objs.size]}
def zS(c:Bool)(t l:Addr)(a f:N9):Meets (Builtin.«zip.__new__» ⟨[.type "zip",.ref t,.ref l],[]⟩) (λ_ R s=>s.heap.IsTuple t a/\py c s.heap l f/\R (.ok (.ret (.ref (LD c s.heap t l).objs.size))) {s with heap:=J5 c s.heap t l}):=.of_wp λprog w A R s h=>by
  obtain⟨b,g,d,tk,os⟩:=s;obtain⟨h1,h2,h⟩:=h;have i:=sub_zip;have j:Heap.IsTuple (Shared.heap ⟨b,g,d,tk,os⟩) t a:=h1;have k:py c (Shared.heap ⟨b.push {cls:=.type "tuple_iterator",data:=.fields #[.ref t,.int 0 0]},g,d,tk,os⟩) l f:=h2.at λ_ e=>c_ _ e
  wp_walk using E2 j,Az k
  exact⟨_,rfl,h⟩
def Cm{c:Bool}{t l:Addr}{h i:N9}{Q:N2}(h1:s.heap.IsTuple t h)(h2:py c s.heap l i)(q:∀g,IsZip g (s.heap.objs.size+4) (s.heap.objs.size+2) (s.heap.objs.size+3) .none->IsPair g (s.heap.objs.size+2) (.ref s.heap.objs.size) (.ref (s.heap.objs.size+1))->IsPair g (s.heap.objs.size+3) .none .none->g.IsTupleIter s.heap.objs.size t 0->qw c g (s.heap.objs.size+1) l 0->(∀c o,s.heap.get? c=some o->g.get? c=some o)->Q (.ref (s.heap.objs.size+4)) {s with heap:=g}):wpAny (model P w) A (call (.type "zip") [.ref t,.ref l]) Q E s:=by
 refine callType_new F.called_zip (by decide) (F.typeCall_zip_2 _ _) (F.newCall_zip_2 _ _) (λob=>F.args_object_init_3 ob _ _) F.entry_zip_new (zS c t l h i) ⟨h1,h2,?_⟩;have a:(FD s.heap t).objs.size=s.heap.objs.size+1:=ni ..;have b:(LF c s.heap t l).objs.size=s.heap.objs.size+2:=by rw[ni,a]
 have e:(LE c s.heap t l).objs.size=s.heap.objs.size+3:=by rw[ni,b]
 have j:(LD c s.heap t l).objs.size=s.heap.objs.size+4:=by rw[ni,e]
 have f:(J5 c s.heap t l).get? (LD c s.heap t l).objs.size=some _:=fy _ rfl;have k:(J5 c s.heap t l).get? (LE c s.heap t l).objs.size=some _:=c_ _ (fy _ rfl);have m:(J5 c s.heap t l).get? (LF c s.heap t l).objs.size=some _:=c_ _ (c_ _ (fy _ rfl));have n:(J5 c s.heap t l).get? (FD s.heap t).objs.size=some _:=c_ _ (c_ _ (c_ _ (fy _ rfl)));have p:(J5 c s.heap t l).get? s.heap.objs.size=some _:=c_ _ (c_ _ (c_ _ (c_ _ (fy _ rfl))));show _/\_;rw[b,e,j]at f;rw[a,b]at m;rw[e]at k;rw[a]at n;rw[j];exact⟨⟨_,f,rfl⟩,q _ f m k ⟨_,p,rfl,rfl⟩ ⟨_,n,rfl,rfl⟩ λc ob d=>c_ _ (c_ _ (c_ _ (c_ _ (c_ _ d))))⟩
end
def kr{X:Cx}{a:N3}{g:St}{H:Hp}{s:Shared}{h':Heap}{t':Nat}{ch:Oa}(I:aN X a g H s)(k:∀b o,b∉ch->s.heap.get? b=some o->h'.get? b=some o)(f:∀b∈ch,u9 X a H b):aN X a g H {s with heap:=h',toks:=t'}:=by
 have d:∀b u,H b=some u->b∉ch:=λb u e z=>by rw[(f b z).1]at e;cases e
 refine I.step (g':=s.gens) (d':=s.drawn) (ch:=ch) (λb h=>?_) (λb o _ _ hc e _=>k b o hc e) (λb o _ _ hc e _=>⟨o.slots,k b o hc e⟩) (λ_ _ _ _ n=>n) (λb o hc e=>⟨o,k b o hc e⟩) (λ_ _ e=>e) (λ_ _ _ e=>e) (λb y e=>⟨#[],by rw[e];simp⟩) (λm hm=>?_) (λb u e=>?_) I.bare
 ·obtain⟨_,f1,_,f3,i,j⟩:=f b h;exact⟨f3,f1,i,j⟩
 ·obtain⟨o,l,p,t,r⟩:=hm;exact⟨o,l,p,k _ o (λz=>(f _ z).2.1 rfl) t,r⟩
 ·refine(I.hok b u e).stay (λc v hc q=>k c v ?_ q) (λ_ q=>q) λ_ _ q=>q;rcases hc with z|z
  ·rw[z];exact d b u e
  ·exact d c _ z
def LB(c:Bool)(K:N1)(t l:Addr):It:=⟨λi H=>∃a b x y,bd K H t a/\Ht c K H l b/\a[i]?=some x/\b[i]?=some y,λi H v d=>∃T x y,H T=none/\v=.ref T/\d=aJ H T (.tup [x,y])/\∀a b,bd K H t a->Ht c K H l b->a[i]?=some x/\b[i]?=some y,λi H=>∃a,bd K H t a/\a.length<=i⟩
def CH{c:Bool}{P:N6}{w:World}{K:N1}{J:N8}{x1:Nat}{Q:Pos}{z j m n r t l:Addr}(D:ZipApart z j m n r t l):u7 P w K (.Tuple J x1 Q) (LB c K t l) [z,j,m,n,r] z (λi h=>IsZip h z j m .none/\IsPair h j (.ref n) (.ref r)/\(∃a b,IsPair h m a b)/\h.IsTupleIter n t i/\qw c h r l i)where
 mem:=by simp
 obj:=λi h st b d=>by
  obtain⟨a1,q,⟨_,_,A⟩,⟨an,a4,_,d4⟩,⟨ap,C,_,d5⟩⟩:=st;simp only[ot,m_,xn]at d;rcases d with rfl|rfl|rfl|rfl|rfl
  ·exact⟨_,a1,λv e=>by cases e⟩
  ·exact⟨_,q,λv e=>by cases e⟩
  ·exact⟨_,A,λv e=>by cases e⟩
  ·exact⟨_,a4,λv e=>by rw[d4]at e;cases e⟩
  ·exact⟨_,C,λv e=>by rw[d5]at e;cases e⟩
 keep:=λi h h' st k=>by obtain⟨a1,q,⟨a,b,A⟩,a4,C⟩:=st;exact⟨k z (by simp) _ a1,k j (by simp) _ q,⟨a,b,k m (by simp) _ A⟩,a4.at λob e=>k n (by simp) ob e,C.at λob e=>k r (by simp) ob e⟩
 item:=by
  intro X O R S hc i B s σ H E I N st hg;subst O R S;obtain⟨xs,ys,x,y,L,T,U,hy⟩:=hg;obtain⟨F,V,p,hz⟩:=I.tuple L;obtain⟨al,Y,p2,Z⟩:=I.sqE T;obtain⟨u,hu,ru⟩:=V.get U;obtain⟨u2,aa,ad⟩:=Y.get hy;obtain⟨a1,q,⟨a,b,A⟩,a4,C⟩:=st;refine Bh D a1 q A a4 C (show s.heap.IsTuple t F.toArray from p) p2 (x:=u) (y:=u2) (by simpa using hu) (by simpa using aa) λg b1 b2 b3 b4 b5 b6 off=>?_;refine⟨_,rfl,wpAny_letOwnedTupleGo_zip b1 λg' c1 G=>?_⟩;have lt:∀c∈[z,j,m,n,r],c≠s.heap.objs.size:=λc M e=>by
   have hs:∃ob,s.heap.get? c=some ob:=by
    simp only[ot,m_,xn]at M;rcases M with rfl|rfl|rfl|rfl|rfl
    ·exact⟨_,a1⟩
    ·exact⟨_,q⟩
    ·exact⟨_,A⟩
    ·obtain⟨ob,e,_⟩:=a4;exact⟨ob,e⟩
    ·obtain⟨ob,e,_⟩:=C;exact⟨ob,e⟩
   obtain⟨ob,h⟩:=hs;rw[e]at h;exact absurd (gV h) (nn _)
  have fresh:H s.heap.objs.size=none:=I.hok.fresh (eN _);have I1:aN X B σ (aJ H s.heap.objs.size (.tup [x,y])) {s with heap:=s.heap.push {cls:=.type "tuple",data:=.seq #[u,u2]},toks:=s.toks}:=I.laid (λb o e=>c_ _ e) (eN _) ⟨by rw[g8];simp,[u,u2],.cons ru (.cons ad .nil),⟨_,fy _ rfl,rfl,_,rfl⟩⟩
  have I2:=kr (h':=g') (t':=s.toks) (ch:=[z,j,m,n,r]) I1 (λb o d e=>?_) (λb d=>?_)
  ·refine⟨.ref s.heap.objs.size,_,I2,rfl,⟨_,x,y,fresh,rfl,rfl,λas ax h1 h2=>⟨by rw[I.tuple_inj h1 L];exact U,by rw[Z _ h2];exact hy⟩⟩,⟨c1,G.extBut _ _ D.TIz (off _ _ D.TIz D.TITO D.TIi1 D.TIi2 q),⟨_,_,G.extBut _ _ D.TOz b2⟩,b3.extBut G.extBut D.i1z,b4.at λ_ e=>G.extBut _ _ D.i2z e⟩,λb d=>?_⟩;rw[ao (lt b d)];exact(N b d).1
  ·have f:b≠z/\b≠j/\b≠m/\b≠n/\b≠r:=by simpa using d
   by_cases eb:b=s.heap.objs.size
   ·subst eb;rw[fy _ rfl]at e;cases e;exact G.extBut _ _ f.1 b5
   ·have e':s.heap.get? b=some o:=by
     rcases ME e with⟨z2,_⟩|e2
     ·exact absurd z2 eb
     ·exact e2
    exact G.extBut _ _ f.1 (off b o f.1 f.2.2.1 f.2.2.2.1 f.2.2.2.2 e')
  ·obtain⟨f0,f1⟩:=N b d;exact⟨by rw[ao (lt b d)];exact f0,f1⟩
 done:=by
  intro X O R S hc i B s σ H E I N st hg;subst O R S;obtain⟨xs,hq,U⟩:=hg;obtain⟨F,V,p,hz⟩:=I.tuple hq;have hl:=V.length;obtain⟨a1,q,⟨a,b,A⟩,a4,C⟩:=st;refine CC (I.ok.hd hc) D a1 q A a4 (show s.heap.IsTuple t F.toArray from p) (by simp;lia) λg off=>⟨rfl,kr (t':=s.toks) (ch:=[z,j,m,n,r]) I (λb o d e=>?_) N⟩;have f:b≠z/\b≠j/\b≠m/\b≠n/\b≠r:=by simpa using d
  exact off b o f.1 f.2.2.1 f.2.2.2.1 f.2.2.2.2 e
 self:=λ_ _ _ _ _ st h=>wpAny_pyIter_zip st.1 h
end L2
namespace L2
open PySem PySem.Spec PyProof.Rows PySem.W
section
variable{X:Cx}{a:Expr}
end
end L2
namespace L2
open PySem PySem.Spec PyProof.Rows PySem.W
def L8{K:N1}{w:World}{pm:Params}{a:Addr}(h:w.params=pm)(k:Hx K pm a):Hx K w.params a:=h▸k
def gl(c:Nat):List (List Nat)->List Nat|[]=>[]|[x]=>x|x::y::r=>x++c::gl c (y::r)
end L2
namespace L2
open PySem PySem.Spec PyProof.Rows
section
variable{prog:N6}{w:World}{A:Around}{E:N2}{s:Shared}
def Ca:typeLookup (.type "list") "keys"=pure none:=am_miss_of_fast (by decide+kernel)
def wK{l:Addr}{ob:Obj}{a:N9}{n:Nat}{Q:Option Value->Shared->Prop}(d:s.heap.get? l=some ob)(e:ob.cls=.type "list")(f:ob.data=.seq a n)(g:ob.dict=none)(i:A.handled=none)(q:∀h' tk,(∀b o,s.heap.get? b=some o->h'.get? b=some o)->Q none {s with heap:=h',toks:=tk}):wpAny (model prog w) A (getAttr? (.ref l) "keys") Q E s:=by
 obtain⟨cl,r,u,st⟩:=ob;simp only at e f g;subst e f g;obtain⟨h0,j,dr,k,c⟩:=s;have ty:∀t,(⟨h0,j,dr,t,c⟩:Shared).TypeIs (.ref l) "list":=λ_=>⟨_,d,rfl⟩;have v:=sub_AttributeError;have x:=F.slot_list_getattribute.lookup;have y:=F.slot_list_getattribute.bind (.ref l);have z:=am_list_getattr_none;unfold getAttr? getAttrBy? getAttrBy
 repeat(any_goals(first|assumption|exact ty _|((with_reducible show wpAny _ _ (call (Value.builtin "list.__getattribute__") _ _) _ _ _);refine NB F.slot_list_getattribute (ty _) am_entry_list_getattribute (F.args_list_getattribute_2 _ _) (meets_getattribute_miss_list l a n st "keys" _ Ca (by decide+kernel)) ⟨d,i,λh' m ex h=>?_⟩)|wp_step))
 obtain⟨B,C,p⟩:=h.there;show wpAny _ _ (getattributeRaised _ _ _ _ _ _ _) _ _ _;unfold getattributeRaised
 repeat(any_goals(first|assumption|wp_step))
 exact q _ _ h.of.keeps
end
def kP{c d:Type}(e:List (bC×c×d)):List (bC×c×d):=e.foldl (λa y=>cX a y.1 y.2.1 y.2.2) []
def B3{a c:Type}(d:List (bC×a×c))(y:bC×a×c):kP (d++[y])=cX (kP d) y.1 y.2.1 y.2.2:=by unfold kP;rw[u6];rfl
def Eo{c d:Type}{f:List (bC×c×d)}{k:bC}{a:c}{v:d}{x:bC×c×d}(h:x∈cX f k a v):(∃y∈f,y.1=x.1/\y.2.1=x.2.1)\/(k=x.1/\a=x.2.1):=by
 unfold cX at h
 split at h
 ·obtain⟨y,b,e⟩:=ig.mp h;refine .inl ⟨y,b,?_⟩
  split at e<;>subst e<;>exact⟨rfl,rfl⟩
 ·rcases List.mem_append.mp h with h|h
  ·exact .inl ⟨x,h,rfl,rfl⟩
  ·rw[List.mem_singleton.mp h];exact .inr ⟨rfl,rfl⟩
theorem yM{c d:Type}{x:bC×c×d}:∀(f a:List (bC×c×d)),x∈f.foldl (λa y=>cX a y.1 y.2.1 y.2.2) a->(∃y∈a,y.1=x.1/\y.2.1=x.2.1)\/∃y∈f,y.1=x.1/\y.2.1=x.2.1
 |[],a,h=>.inl ⟨x,h,rfl,rfl⟩|y::r,a,h=>by
  rcases yM r _ h with⟨z,hz,b,g⟩|⟨z,hz,e⟩
  ·rcases Eo hz with⟨u,i,f1,f2⟩|⟨f1,f2⟩
   ·exact .inl ⟨u,i,f1.trans b,f2.trans g⟩
   ·exact .inr ⟨y,hF,f1.trans b,f2.trans g⟩
  ·exact .inr ⟨z,g_ _ hz,e⟩
def Et{c d:Type}{x:bC×c×d}{a:List (bC×c×d)}(h:x∈kP a):∃y∈a,y.1=x.1/\y.2.1=x.2.1:=by
 rcases yM a [] h with⟨_,b,_⟩|h
 ·cases b
 ·exact h
theorem yL{f g:Type}:∀(d a:List (bC×f×g)),((a++d).map (·.1)).Nodup->d.foldl (λa y=>cX a y.1 y.2.1 y.2.2) a=a++d
 |[],a,_=>(qr _).symm|y::r,a,h=>by
  have e:cX a y.1 y.2.1 y.2.2=a++[y]:=by
   unfold cX eE;have:a.find? (λz=>decide (z.1=y.1))=none:=by rw[List.find?_eq_none];intro z hz c;rw[gg,ku,n7]at h;exact h.2.2 z.1 (ig.mpr ⟨z,hz,rfl⟩) y.1 hF (i_ c)
   rw[this];rfl
  show r.foldl _ (cX a y.1 y.2.1 y.2.2)=_;rw[e,yL r _ (by rw[u_];exact h),u_];rfl
def Er{c d:Type}{a:List (bC×c×d)}(h:(a.map (·.1)).Nodup):kP a=a:=yL a [] h
theorem yN{d e:Type}:∀(c a:List (bC×d×e)),(c.foldl (λa y=>cX a y.1 y.2.1 y.2.2) a).length<=a.length+c.length
 |[],a=>eN _|y::r,a=>by
  have h:=yN r (cX a y.1 y.2.1 y.2.2);have:(cX a y.1 y.2.1 y.2.2).length<=a.length+1:=by
   unfold cX
   split
   ·rw[b_];lia
   ·rw[ga];exact eN _
  show List.length (r.foldl _ (cX a y.1 y.2.1 y.2.2))<=_;rw[kl];lia
def Eu{c d:Type}(a:List (bC×c×d)):(kP a).length<=a.length:=by have h:=yN a [];rw[Nl,Nat.zero_add]at h;exact h
theorem yK:∀{c:List eX}{d:List gy}{f:List eX}{g:List gy},kC c d->kC f g->kC (c.foldl (λa y=>cX a y.1 y.2.1 y.2.2) f) (d.foldl (λa y=>cX a y.1 y.2.1 y.2.2) g)|_,_,_,_,.nil,h=>h|x::c,y::d,f,g,.cons ⟨e,b,r2⟩ t,h=>by show kC (c.foldl _ (cX f x.1 x.2.1 x.2.2)) (d.foldl _ (cX g y.1 y.2.1 y.2.2));rw[<-e];exact yK t (h.put b r2)
def Ep{a:List eX}{c:List gy}(h:kC a c):kC (kP a) (kP c):=yK h .nil
def iJ.keep{P:N6}{w:World}{h h':Heap}{k:bC}{v:Value}(x:iJ P w h k v)(kp:∀b o,h.get? b=some o->h'.get? b=some o):iJ P w h' k v:=by cases k with|inl k=>exact x|inr d=>cases d with|nil=>exact x|cons k d=>obtain⟨a,e,o,c,n,f,r⟩:=x;exact⟨a,e,o,c,n,kp _ _ f,r⟩
def lw:entryFor table "dict.update.loop"=some Builtin.«dict.update.loop»:=entryFor_of_tree (by kernel_rfl)
def gf:plainId "dict.update.loop"=true:=by decide+kernel
section
variable{P:N6}{w:World}{A:Around}{R:Result->Shared->Prop}{h0:Heap}{l it d:Addr}{a:N9}{Es:List gy}
def Ch(hh:A.handled=none)(N:A.in1.units<cLine)(hl:h0.IsList l a)(hz:Es.length=a.size)(Q:Es.length<=10000)(S:∀(i:Nat)(x:gy),Es[i]?=some x->∃(b:Addr)(o:Obj)(n:Nat),a[i]?=some (.ref b)/\h0.get? b=some o/\o.cls=.type "tuple"/\o.data=.seq #[x.2.1,x.2.2] n)(J:∀x∈Es,iJ P w h0 x.1 x.2.1)(v:h0.get? it=none)(hd:h0.get? d=none)(g:it≠d):∀(m i:Nat)(s:Shared),a.size-i=m->i<=a.size->(∀b o,h0.get? b=some o->s.heap.get? b=some o)->s.heap.IsListIter it l i->fJ P w s.heap d (kP (Es.take i))->(∀h' tk,(∀b o,h0.get? b=some o->h'.get? b=some o)->fJ P w h' d (kP Es)->R (.ok (.ret .none)) {s with heap:=h',toks:=tk})->codeAny (model P w) A (.builtin "dict.update.loop" ⟨[Value.ref d,Value.ref it,rawInt i,Value.none],[]⟩) R s:=by
 have K:∀b o,h0.get? b=some o->b≠it:=λb o e z=>by rw[z,v]at e;cases e
 have nd:∀b o,h0.get? b=some o->b≠d:=λb o e z=>by rw[z,hd]at e;cases e
 intro m
 induction m with|zero=>
  intro i s hm hi kp st t q;obtain rfl:i=a.size:=by omega
  refine t6 lw ?_;rw[sD gf _];have h:s.heap.IsList l a:=by obtain⟨o,e,r⟩:=hl;exact⟨o,kp _ _ e,r⟩
  refine a_ (m:=pyNext (.ref it)) (wpAny_pyNext_list_end (by simp[hh]) st h (by simp) λh' L=>?_);show wpAny _ _ (Builtin.Dict.addKeywords d []>>=_) _ _ _;refine a_ (eH (eH (q h' s.toks (λb o e=>L b o (K b o e) (kp b o e)) ?_)));rw[<-hz,hH (eN _)]at t;exact t.keep λo e=>L d o (mu g) e|succ m O=>
  intro i s hm hi kp st t q;have lt:i<a.size:=by omega
  refine t6 lw ?_;rw[sD gf _];have h:s.heap.IsList l a:=by obtain⟨o,e,r⟩:=hl;exact⟨o,kp _ _ e,r⟩
  have u:Es[i]?=some (Es[i]'(by omega)):=fx (by omega);have f:=e_ u;generalize Es[i]'(by omega)=x at u f;obtain⟨b,o,n,U,M,V,W⟩:=S i x u;refine a_ (m:=pyNext (.ref it)) (wpAny_pyNext_list_item st h U λh1 B j=>?_);have c:∀b o,h0.get? b=some o->h1.get? b=some o:=λb o e=>(j.2 b (K b o e)).trans (kp b o e);have C:fJ P w h1 d (kP (Es.take i)):=t.keep λo e=>(j.2 d (mu g)).trans e;have D:∀y∈kP (Es.take i),iJ P w h1 y.1 y.2.1:=λy X=>by obtain⟨z,E,f1,f2⟩:=Et X;rw[<-f1,<-f2];exact(J z (z7 E)).keep c
  have k:(kP (Es.take i)).length<sizeLine:=by have:=Eu (Es.take i);rw[ji]at this;rw[g8];lia
  refine a_ (m:=holding [Value.ref b] _) (l_ (a_ (m:=(Builtin.Dict.pairItems (Value.ref b)).tryCatch _) (wpAny_tryCatch ?_)));unfold Builtin.Dict.pairItems;refine a_ (MN (T:="tuple") ⟨o,c _ _ M,V⟩ ?_);rw[gn (by decide)];refine a_ (qc (c _ _ M) W (eH ?_));show wpAny _ _ (holding [x.2.1,x.2.2] (dictSet d x.2.1 x.2.2)) _ _ _;refine l_ (HK N ((J x f).keep c) C D k λh2 F p=>?_);have G:∀b o,h0.get? b=some o->h2.get? b=some o:=λb o e=>(p.2 b (nd b o e)).trans (c b o e);refine eH ⟨x_ gf _,O (i+1) _ (by omega) lt G ?_ ?_ λh' tk H I=>q h' tk H I⟩
  ·obtain⟨Y,f1,f2,f3⟩:=B;exact⟨Y,(p.2 it g).trans f1,f2,f3⟩
  ·rw[rr,u];show fJ P w h2 d (kP (Es.take i++[x]));rw[B3];exact F
end
section
variable{P:N6}{w:World}{A:Around}{E:N2}{s:Shared}{l:Addr}{its:N9}{Es:List gy}{Q:N2}
def Ak{ob:Obj}{m:Nat}(hh:A.handled=none)(G:A.units+16<cLine)(y:s.heap.get? l=some ob)(hc:ob.cls=.type "list")(c:ob.data=.seq its m)(p:ob.dict=none)(hz:Es.length=its.size)(r:Es.length<=10000)(C:∀(i:Nat)(x:gy),Es[i]?=some x->∃(b:Addr)(o:Obj)(n:Nat),its[i]?=some (.ref b)/\s.heap.get? b=some o/\o.cls=.type "tuple"/\o.data=.seq #[x.2.1,x.2.2] n)(D:∀x∈Es,iJ P w s.heap x.1 x.2.1)(q:∀h' tk,(∀b o,s.heap.get? b=some o->h'.get? b=some o)->fJ P w h' s.heap.objs.size (kP Es)->Q (.ref s.heap.objs.size) {s with heap:=h',toks:=tk}):wpAny (model P w) A (call (.type "dict") [.ref l]) Q E s:=by
 refine callType_codes (Q₁:=λobj s₁=>obj=.ref s.heap.objs.size/\s₁={s with heap:=s.heap.push {cls:=.type "dict",data:=.dict #[]}}) F.kt_called_dict (F.kt_typeCall_dict_1 _) F.entry_dict_init (kt_code_dict_new _ ⟨rfl,rfl⟩) ?_;rintro obj s₁⟨rfl,rfl⟩;have a:(s.heap.push {cls:=.type "dict",data:=.dict #[]}).get? s.heap.objs.size=some {cls:=.type "dict",data:=.dict #[]}:=fy _ rfl;have B:∀b o,s.heap.get? b=some o->(s.heap.push {cls:=.type "dict",data:=.dict #[]}).get? b=some o:=λb o e=>c_ _ e;have ty:Shared.TypeIs {s with heap:=s.heap.push {cls:=.type "dict",data:=.dict #[]}} (.ref s.heap.objs.size) "dict":=⟨_,a,rfl⟩;have f:(s.heap.push {cls:=.type "dict",data:=.dict #[]}).get? l=some ob:=B _ _ y;refine⟨ty,F.args_dict_init_2 _ _,?_⟩;unfold Builtin.«dict.__init__»;refine a_ ?_;unfold Builtin.Dict.selfAndRest;refine a_ (wpAny_notOrdered_dict ty ?_);refine eH ?_;show wpAny _ _ (Builtin.Dict.updateFrom "dict.__init__" s.heap.objs.size (.ref l) [] .none) _ _ _;unfold Builtin.Dict.updateFrom;refine a_ (MN (T:="list") ⟨_,f,hc⟩ ?_);rw[gn (by decide)];refine a_ (wK (s:={s with heap:=s.heap.push {cls:=.type "dict",data:=.dict #[]}}) f hc c p (by simp[hh]) λh1 k j=>?_);rw[gn (by rfl)];refine a_ (si ?_);have t:h1.IsList l its:=⟨_,j _ _ f,hc,m,c⟩;refine a_ (H_ (s:={s with heap:=h1,toks:=k}) t ?_);have h:s.heap.objs.size<h1.objs.size:=gV (j _ _ a);have g:=j _ _ a;refine eH ⟨x_ gf _,Ch (h0:=s.heap) (it:=h1.objs.size) (d:=s.heap.objs.size) (Es:=Es) (by simp[hh]) (by show A.units+1+1<cLine;omega) ⟨_,y,hc,m,c⟩ hz r C D (Nw (rm h)) (Nw (eN _)) (lm h) (its.size-0) 0 _ rfl (j1 _) (λb o e=>c_ _ (j b o (B b o e))) ⟨_,fy _ rfl,rfl,rfl⟩ ⟨⟨_,#[],0,c_ _ g,⟨rfl,rfl,rfl⟩,rfl,rfl⟩,J_⟩ λh' tk u v=>?_⟩
 exact⟨rfl,q h' tk u v⟩
end
def rW(K:N1)(H:Hp)(a:List V)(c:List eX):Prop:=Paired (λ(v:V)(x:eX)=>∃b,v=.ref b/\bd K H b [x.2.1,x.2.2]/\cS K H x.1 x.2.1) a c
section
variable{X:Cx}
theorem tJ{f:N3}{m:St}{H:Hp}{s:Shared}(I:aN X f m H s):∀{l:List V}{g:List eX}{a:N5},rW X.K H l g->be l a->∃d:List gy,kC g d/\d.length=a.length/\(∀(i:Nat)(x:gy),d[i]?=some x->∃(b:Addr)(o:Obj)(n:Nat),a[i]?=some (.ref b)/\s.heap.get? b=some o/\o.cls=.type "tuple"/\o.data=.seq #[x.2.1,x.2.2] n)/\∀x∈d,iJ X.prog X.w s.heap x.1 x.2.1
 |_,_,_,.nil,.nil=>⟨[],.nil,rfl,λi x h=>by simp at h,λx h=>nomatch h⟩|_,x::g,_,.cons ⟨b,e,h1,h2⟩ t,.cons (b:=u) r p=>by
  subst e;obtain rfl:u=Value.ref b:=r;obtain⟨d,f1,f2,f3,q⟩:=tJ I t p;obtain⟨a,v,⟨o,z,A,n,B⟩,_⟩:=I.tuple h1;obtain⟨C,D,rfl,k,j⟩:=r6 v;refine⟨(x.1,C,D)::d,.cons ⟨rfl,k,j⟩ f1,by rw[kl,kl,f2],λi y c=>?_,λy c=>?_⟩
  ·cases i with|zero=>simp at c;subst c;exact⟨b,o,n,rfl,z,A,B⟩|succ i=>obtain⟨E,F,G,J,L⟩:=f3 i y (by simpa using c);exact⟨E,F,G,by simpa using J,L⟩
  ·rcases ot.mp c with rfl|c
   ·exact h2.is I k
   ·exact q y c
def Ar(hc:X.calm=true)(l:X.A.units+16<cLine):db X (.type "dict") (λf H Q=>∃(p:Addr)(e:List V)(c:List eX),f=[.ref p]/\aX X.K H p e/\rW X.K H e c/\e.length<=10000/\∀q,H q=none->Q (.ref q) (aJ H q (dM X.prog X.w q (kP c)))):=by
 intro g s O H f P Q I r h;obtain⟨p,e,c,rfl,t,v,hz,q⟩:=h;obtain⟨u,rfl,y⟩:=jO r;obtain rfl:u=Value.ref p:=y;obtain⟨d,j,⟨o,n,B,C,D,E⟩,_⟩:=I.list t;obtain⟨F,f1,f2,f3,G⟩:=tJ I v j;have k:=j.length;refine Ak (its:=d.toArray) (Es:=F) (I.ok.hd hc) l B C E D (by rw[f2];simp) (by omega) (λi x J=>?_) G λh' tk kp L=>?_
 ·obtain⟨b,ob,m,M,N⟩:=f3 i x J;exact⟨b,ob,m,by rw[Mu];exact M,N⟩
 ·refine⟨.ref s.heap.objs.size,_,I.laid (h':=h') (t':=tk) (a:=s.heap.objs.size) (o:=dM X.prog X.w s.heap.objs.size (kP c)) kp (eN _) ?_,rfl,q _ (I.hok.fresh (eN _))⟩;exact EZ (to.mpr λz=>absurd (z▸I.big) (nn _)) (Ep f1) L
def yZ{P:N6}{w:World}(K:N1)(d:X.K=K)(hc:X.calm=true)(h:X.A.units+64<cLine)(e:X.prog=P:=by rfl)(f:X.w=w:=by rfl):db X (.type "dict") (λg H Q=>∃(p:Addr)(a:List V)(c:List eX),g=[.ref p]/\aX K H p a/\rW K H a c/\a.length<=10000/\∀q,H q=none->Q (.ref q) (aJ H q (dM P w q (kP c)))):=by subst d e f;exact Ar hc (by omega)
end
end L2
namespace L2
open PySem PySem.Spec PyProof.Rows PySem.W
abbrev dE(P:N6)(w:World)(d:Addr)(a:List (cu×V))(c:Nat):HO:=.ext λh=>((d==sysModules)=false/\a.length<=sizeLine)/\∃b,KV a b/\h.DictAt (aW P w) d b c
theorem wL:∀{a:List (cu×V)}{d:List (cu×Value)},KV a d->∀(i:Nat)(k:cu)(v:V),a[i]?=some (k,v)->∃u,d[i]?=some (k,u)/\aY v u|_,_,.nil,i,k,v,h=>by simp at h|_,_,.cons (b:=q) ⟨c,e⟩ t,i,k,v,h=>by cases i with|zero=>simp at h;subst h;obtain⟨f,u⟩:=q;have c:k=f:=c;subst c;exact⟨u,rfl,e⟩|succ i=>obtain⟨u,h1,h2⟩:=wL t i k v (by simpa using h);exact⟨u,by simpa using h1,h2⟩
def AR(h:(aW P w).is k u=true):aY (kV k) u:=by
 rcases iJ.flat (P:=P) (w:=w) (h:=default) (k:=k) (v:=u) h with⟨i,t,rfl,rfl⟩|⟨z,t,rfl,rfl⟩
 ·exact⟨t,rfl⟩
 ·exact⟨t,rfl⟩
section
variable{X:Cx}{g:N3}{j:St}{H:Hp}{s:Shared}{d:Addr}{f:List (cu×V)}{i:Nat}
def aN.walk(I:aN X g j H s)(h:H d=some (.dK f)):∃i l,KV f l/\s.heap.DictAt (aW X.prog X.w) d l i/\(d==sysModules)=false/\aN X g j (aJ H d (dE X.prog X.w d f i)) s:=by obtain⟨hz,p,l,q,m⟩:=I.hok d _ h;obtain⟨i,n⟩:=m.dictAt;obtain⟨o,t,r,_⟩:=id n;refine⟨i,l,q,n,p,?_⟩;have J:=I.write (h':=s.heap) (t':=s.toks) (x:=d) (e:=d) (o:=dE X.prog X.w d f i) (by rw[h];exact True.intro) (.inl rfl) (λ_ _ _ e=>e) ⟨o,r⟩ ⟨⟨⟨p,hz⟩,l,q,n⟩,⟨o,r⟩,λ_ _⟨a,l,b,c⟩k=>⟨a,l,b,c.at' k⟩⟩;exact J
def aN.thaw(I:aN X g j H s)(h:H d=some (dE X.prog X.w d f i)):aN X g j (aJ H d (.dK f)) s:=by obtain⟨⟨⟨a,hz⟩,b,c,k⟩,⟨o,l⟩,_⟩:=I.hok d _ h;have J:=I.write (h':=s.heap) (t':=s.toks) (x:=d) (e:=d) (o:=.dK f) (by rw[h];exact True.intro) (.inl rfl) (λ_ _ _ e=>e) ⟨o,l⟩ ⟨hz,a,b,c,k.dictOf⟩;exact J
end
def LN(P:N6)(w:World)(d:Addr)(a:List (cu×V))(c:Nat)(f:cu×V->V):It:=⟨λi H=>H d=some (dE P w d a c)/\i<a.length,λi H x b=>b=H/\a[i]?.map f=some x,λi H=>H d=some (dE P w d a c)/\a.length<=i⟩
def Bl{P:N6}{w:World}{K:N1}{Q:Expr}(d g:Addr)(a:List (cu×V))(n:Nat):u7 P w K Q (LN P w d a n λp=>kV p.1) [g] g (λi h=>h.IsKeyIter g d i a.length n)where
 mem:=by simp
 obj:=λi h st b l=>by
  have e:b=g:=by simpa using l
  subst e;obtain⟨o,e,c,x⟩:=st;exact⟨o,e,λv z=>by rw[x]at z;cases z⟩
 keep:=λi h h'⟨o,e,r⟩k=>⟨o,k g (by simp) o e,r⟩
 item:=by intro X y A B hc i j s M H E I q st hg;subst y A B;obtain⟨hd,hi⟩:=hg;obtain⟨⟨_,C,t,D⟩,_⟩:=I.hok d _ hd;have f:a.length=C.length:=Paired.length t;obtain⟨F,f1,f2,f3,G,J⟩:=q g (by simp);have N:a[i]?=some a[i]:=fx hi;obtain⟨u,O,ru⟩:=wL t i a[i].1 a[i].2 N;have st:s.heap.IsKeyIter g d i a.length n:=st;rw[f]at st;refine wpAny_pyNext_dict_item st D O λL h' R m S=>?_;have I1:aN X j M H {s with heap:=h'}:=I.turned (t':=s.toks) (λb o l e=>(S.2 b l).trans e) F f1 f3 G J;obtain⟨o,e,c,x⟩:=id m;rw[<-f]at m;exact⟨L,rfl,vI (s:={s with heap:=h'}) e c x (by decide) ⟨kV a[i].1,H,I1,AR R,⟨rfl,by rw[N];rfl⟩,m,λb l=>(q b l).1⟩⟩
 done:=by intro X y A B hc i j s M H E I q st hg;subst y A B;obtain⟨hd,hi⟩:=hg;obtain⟨⟨_,C,t,D⟩,_⟩:=I.hok d _ hd;have f:a.length=C.length:=Paired.length t;obtain⟨F,f1,f2,f3,G,J⟩:=q g (by simp);have st:s.heap.IsKeyIter g d i a.length n:=st;rw[f]at st;exact wpAny_pyNext_dict_end (I.ok.hd hc) st D (lh (by lia)) λh' U=>⟨rfl,I.turned (t':=s.toks) (λb o l e=>U b o l e) F f1 f3 G J⟩
 self:=λ_ _ _ _ _ st h=>wpAny_pyIter_keyiter st h
def Bj{P:N6}{w:World}{K:N1}{N:Expr}(d g:Addr)(a:List (cu×V))(n:Nat):u7 P w K N (LN P w d a n λp=>p.2) [g] g (λi h=>h.IsValIter g d i a.length n)where
 mem:=by simp
 obj:=λi h st b l=>by
  have e:b=g:=by simpa using l
  subst e;obtain⟨o,e,c,x⟩:=st;exact⟨o,e,λv z=>by rw[x]at z;cases z⟩
 keep:=λi h h'⟨o,e,r⟩k=>⟨o,k g (by simp) o e,r⟩
 item:=by intro X y A B hc i j s L H E I q st hg;subst y A B;obtain⟨hd,hi⟩:=hg;obtain⟨⟨_,C,t,D⟩,_⟩:=I.hok d _ hd;have f:a.length=C.length:=Paired.length t;obtain⟨F,f1,f2,f3,G,J⟩:=q g (by simp);have M:a[i]?=some a[i]:=fx hi;obtain⟨u,O,ru⟩:=wL t i a[i].1 a[i].2 M;have st:s.heap.IsValIter g d i a.length n:=st;rw[f]at st;refine wpAny_pyNext_values_item st D O λh' m Q=>?_;have I1:aN X j L H {s with heap:=h'}:=I.turned (t':=s.toks) (λb o l e=>(Q.2 b l).trans e) F f1 f3 G J;obtain⟨o,e,c,x⟩:=id m;rw[<-f]at m;exact⟨u,rfl,vI (s:={s with heap:=h'}) e c x (by decide) ⟨a[i].2,H,I1,ru,⟨rfl,by rw[M];rfl⟩,m,λb l=>(q b l).1⟩⟩
 done:=by intro X y A B hc i j s L H E I q st hg;subst y A B;obtain⟨hd,hi⟩:=hg;obtain⟨⟨_,C,t,D⟩,_⟩:=I.hok d _ hd;have f:a.length=C.length:=Paired.length t;obtain⟨F,f1,f2,f3,G,J⟩:=q g (by simp);have st:s.heap.IsValIter g d i a.length n:=st;rw[f]at st;exact wpAny_pyNext_values_end (I.ok.hd hc) st D (lh (by lia)) λh' S=>⟨rfl,I.turned (t':=s.toks) (λb o l e=>S b o l e) F f1 f3 G J⟩
 self:=λ_ _ _ _ _ st h=>wpAny_pyIter_valiter st h
section
variable{X:Cx}{P:N6}{w:World}{j l o e:Expr}{a g te:TE}{i c:Pos}
def Lj(P:N6)(w:World)(a:TE):TI:=λk H R=>a k H λx f=>∃d b,x=.ref d/\f d=some (.dK b)/\∀h,R (LN P w d b h λp=>kV p.1) (aJ f d (dE P w d b h))
def Gx(hl:PE X l a)(t:X.prog=P:=by rfl)(u:X.w=w:=by rfl):PI X j l (Lj P w a):=by
 subst t u;intro f s y H R I h;refine cw (hl f s y H _ I h) λv n z=>?_;obtain⟨x,G,I1,A,d,k,e,hd,q⟩:=z;subst e;obtain rfl:v=Value.ref d:=A;obtain⟨r,B,C,D,E,p⟩:=I1.walk hd;have m:k.length=B.length:=Paired.length C;refine wpAny_pyIter_dict E D ?_;refine⟨n.heap.objs.size,[n.heap.objs.size],_,_,_,rfl,p.kept (t':=n.toks) λb o e=>c_ _ e,Bl d _ k r,⟨_,fy _ rfl,rfl,by rw[m];rfl⟩,λb F=>?_,q r⟩;have e:b=n.heap.objs.size:=by simpa using F
 subst e;exact p.fpOk (eN _) (p.hok.fresh (eN _))
def Lf(P:N6)(w:World)(g:TE):TI:=λk H R=>g k H λx f=>∃d b,x=.ref d/\f d=some (.dK b)/\∀h,R (LN P w d b h λp=>p.2) (aJ f d (dE P w d b h))
def L0(P:N6)(w:World)(t:TE):TE:=λh H Q=>t h H λv f=>∃d b k,f d=some (dE P w d b k)/\Q v (aJ f d (.dK b))
def DM(h:PE X e te)(f:X.prog=P:=by rfl)(m:X.w=w:=by rfl):PE X e (L0 P w te):=by subst f m;intro b s k H Q I n;refine cw (h b s k H _ I n) λu x p=>?_;obtain⟨v,y,I1,r,d,t,z,hd,q⟩:=p;exact⟨v,_,I1.thaw hd,r,q⟩
def KC(P:N6)(w:World)(t:TS):TS:=λD k H=>t {D with nx:=λf h=>∃d b m,h d=some (dE P w d b m)/\D.nx f (aJ h d (.dK b))} k H
def DH{st:Stmt}{t:TS}(h:PS X st t)(m:X.prog=P:=by rfl)(n:X.w=w:=by rfl):PS X st (KC P w t):=by subst m n;intro b s p H D I r;refine wpAny_mono (h b s p H _ I r) (λf y z=>?_) λ_ _ z=>z;cases f with|next=>obtain⟨k,A,v,d,x,B,hd,q⟩:=z;exact⟨k,_,v.thaw hd,q⟩|brk=>exact z|cont=>exact z|ret u=>exact z
end
end L2
namespace L2
open PySem PySem.Spec PyProof.Rows PySem.W
section
variable{X:Cx}{P:N6}{w:World}{t l o e:Expr}{B j te ty:TE}{f c p:Pos}
def Gv(D:PE X o j)(E:X.prog=P:=by rfl)(G:X.w=w:=by rfl)(g:attributeBase o "values" X.env (eval o X.env)=eval o X.env:=by rfl)(i:(f.endLine==c.line)=true:=by rfl):PI X t (.Call (.Attribute o "values" f) [] [] c) (Lf P w j):=by
 subst E G;intro k s J H R I h;refine wpAny_Call_method0_late g i (cw (D k s J H _ I h) λv a K=>?_);obtain⟨x,V,I1,L,d,m,e,hd,q⟩:=K;subst e;obtain rfl:v=Value.ref d:=L;obtain⟨A,C,M,n,N,O⟩:=I1.walk hd;have r:m.length=C.length:=Paired.length M;obtain⟨ob,W,u,Q,_⟩:=id n;refine⟨"dict","dict.values",PySem.F.plainAttrs_dict,PySem.F.slot_dict_values,PySem.F.type_dict_values,n.dictOf.typeIs,?_,pa rfl (PySem.evalArgs_none (wr PySem.F.slot_dict_values n.dictOf.typeIs PySem.F.entry_dict_values (PySem.F.args_dict_values_1 _) (meets_dict_values (aW X.prog X.w) d N) ⟨⟨C,n.dictOf⟩,?_⟩))⟩
 ·intro b z;cases z;exact⟨ob,u,Q.2.1⟩
 ·have S:(a.heap.push {cls:=.type "dict_values",data:=.fields #[.ref d]}).IsValuesView a.heap.objs.size d:=⟨_,fy _ rfl,rfl,rfl⟩;show wpAny _ _ (pyIter (.ref a.heap.objs.size)) _ _ _;have y:=O.kept (h':=a.heap.push {cls:=.type "dict_values",data:=.fields #[.ref d]}) (t':=a.toks) λb o e=>c_ _ e;refine wpAny_pyIter_values (s:={a with heap:=a.heap.push {cls:=.type "dict_values",data:=.fields #[.ref d]}}) S (n.push _) ?_;refine⟨_,[(a.heap.push {cls:=.type "dict_values",data:=.fields #[.ref d]}).objs.size],_,_,_,rfl,y.kept (t':=a.toks) λb o e=>c_ _ e,Bj d _ m A,⟨_,fy _ rfl,rfl,by rw[r];rfl⟩,λb U=>?_,q A⟩;have e:b=(a.heap.push {cls:=.type "dict_values",data:=.fields #[.ref d]}).objs.size:=by simpa using U
  subst e;exact y.fpOk (eN _) (y.hok.fresh (eN _))
def FI(K:N1)(ty j:TE):TE:=λd H Q=>ty d H λy g=>j d g λx b=>(∃a o,x=.ref a/\dR b a y o/\Q (.bl (!o.isSome)) b)\/LI K true y x b Q
def BN(K:N1)(C:X.K=K)(D:X.A.units+1<cLine)(hi:PE X i ty)(E:PE X o j):PC X .NotIn i o (FI K ty j):=by
 subst C;intro b s d H Q I h;refine cw (hi b s d H _ I h) λiv F k=>?_;obtain⟨y,G,I1,m,J⟩:=k;refine cw (E b F d G _ I1 J) λn L k=>?_;obtain⟨x,u,v,z,M⟩:=k;rcases M with⟨a,r,e,g,q⟩|q
 ·subst e;obtain rfl:n=Value.ref a:=z;exact A7 D v g m λO N=>⟨.bl (!r.isSome),u,N,rfl,q⟩
 ·exact wB b L d u y x iv n Q v m z q
def Kx(K:N1)(a:Addr)(ty:TE):TE:=λd H Q=>ty d H λy b=>∃x r,y=.str x/\PySem.W.nsIn K a x=some r/\((r=none/\Q .non b)\/∃u v,r=some u/\aY v u/\Q v b)
def Gz(K:N1)(J:X.K=K)(hd:Hx K X.w.params a)(hg:Gl X x)(hm:X.mg x=some (.ref a))(L:PE X e ty)(m:M1 X (.Name x d) "get" f e c)(A:(x==("__debug__":Str))=false:=by decide):PE X (.Call (.Attribute (.Name x d) "get" f) [e] [] c) (Kx K a ty):=by
 subst J;intro g s D H Q I h;obtain⟨lo,es,n,hl,E⟩:=hd;have hn:PE X (.Name x d) (tC (.ref a)):=AK hg hm rfl A;refine I_ m.base m.few m.line PySem.F.plainAttrs_dict PySem.F.slot_dict_get PySem.F.type_dict_get (cw (hn g s D H (λv M=>v=.ref a/\M=H) I ⟨rfl,rfl⟩) λu N⟨z,O,I1,R,S,T⟩=>?_);subst S T;obtain rfl:u=Value.ref a:=R;have k:=PySem.W.mapOf_K (prog:=X.prog) (w:=X.w) I1.kIn hl E;refine⟨k.typeIs,λb z=>by cases z;exact⟨_,I1.kIn _ _ hl,rfl⟩,?_⟩;rw[m.trees];refine pa rfl (so (oa (cw (L g N D O _ I1 h) λiv s2 U=>?_)));obtain⟨y,G,C,V,Y,r,Z,hu,q2⟩:=U;refine rV ?_;subst Z;obtain⟨tk,rfl⟩:=V;have i:=PySem.W.mapOf_K (prog:=X.prog) (w:=X.w) C.kIn hl E;refine wr PySem.F.slot_dict_get i.typeIs PySem.F.entry_dict_get (PySem.F.args_dict_get_2 _ _) (meets_dict_get (strKind X.prog X.w) a (PySem.strKind_is X.prog X.w Y tk) lo) ⟨_,i,?_⟩;rw[PySem.W.find_K hl hu];rcases q2 with⟨rfl,q⟩|⟨u',v',rfl,rv,q⟩
 ·exact⟨.non,G,C.tok _,rfl,q⟩
 ·exact⟨v',G,C.tok _,rv,q⟩
end
end L2
namespace L2
open PySem PySem.W PyProof.Rows
section
variable{M:Model}{A:Around}{E:N2}
end
end L2
namespace L2
open PySem PySem.Spec PyProof.Rows PySem.W
section
variable{X:Cx}{d:Expr}
def Le(K:N1)(e:TA):TI:=λb H R=>e b H λf a=>∃t l g h,f=[.ref t,.ref l]/\bd K a t g/\∃c,Ht c K a l h/\R (LB c K t l) a
def Gu(K:N1)(D:X.K=K){i:N8}{x1:Nat}{j:Pos}{a b:Expr}{z:TA}{p m:Pos}(hg:Gl X "zip")(hm:X.mg "zip"=none)(E:PA X [a,b] z)(F:starEach [a,b] X.env=[(false,eval a X.env),(false,eval b X.env)]:=by rfl)(n:starEach [b] X.env=[(false,eval b X.env)]:=by rfl):PI X (.Tuple i x1 j) (.Call (.Name "zip" p) [a,b] [] m) (Le K z):=by
 subst D;intro k s G H R I h;refine qx (kQ I hg hm Fj (tx (cw (E m k s G H _ I h) λus f J=>?_) (by rw[F,n]) (by rw[n];rfl)));obtain⟨vs,L,I1,M,t,l,xs,ys,e,w,c,x,q⟩:=J;subst e;obtain⟨u,v,rfl,rt,N⟩:=r6 M;obtain rfl:u=Value.ref t:=rt;obtain rfl:v=Value.ref l:=N;obtain⟨y,rv,pl,hz⟩:=I1.tuple w;obtain⟨A,O,o,P⟩:=I1.sqE x;obtain⟨o1,Q,_⟩:=id pl;obtain⟨o2,S,_⟩:=id o;refine Cm (show f.heap.IsTuple t y.toArray from pl) o λg B T U V Y Z=>?_;refine wpAny_pyIter_zip B ⟨_,[f.heap.objs.size+4,f.heap.objs.size+2,f.heap.objs.size+3,f.heap.objs.size,f.heap.objs.size+1],_,_,L,rfl,I1.kept (t':=f.toks) Z,CH (ktu_apart f.heap.objs.size t l (gV Q) (gV S)),⟨B,T,⟨_,_,U⟩,V,Y⟩,λb C=>?_,q⟩;have r:f.heap.objs.size<=b:=by simp only[ot,m_,xn]at C;rcases C with rfl|rfl|rfl|rfl|rfl<;>first|exact eN _|exact M8 _ _
 exact I1.fpOk r (I1.hok.fresh r)
def Cl{K:N1}{a l:Addr}{xs ys:List V}{g:TG}{ds:N_}{k:Nat}{tc:TT}{te:TE}{E:St}{j:Hp}{F:Addr->Hp->Prop}(Pv:Addr->Nat->List V->Hp->Prop)(r:aX K j l ys\/bd K j l ys)(h0:∀D,j D=none->Pv D 0 [] (aJ j D (.lst [])))(w:xs.length=ys.length)(hl:∀D i f h,Pv D i f h->bd K h a xs/\am j h)(G:∀D i x y f h T,j D=none->xs[i]?=some x->ys[i]?=some y->Pv D i f h->h T=none->g (.ref T) (io ds k E) (aJ h T (.tup [x,y])) λn A=>tc n A λb t=>if b=true then te n t λy u=>u D=some (.lst f)/\f.length<sizeLine/\∃o,o<xs.length-i/\o=xs.length-(i+1)/\i+1<=xs.length/\Pv D (i+1) (f++[y]) (aJ u D (.lst (f++[y])))else∃o,o<xs.length-i/\o=xs.length-(i+1)/\i+1<=xs.length/\Pv D (i+1) f t)(hd:∀D f h,j D=none->Pv D xs.length f h->F D h):∃c,Ht c K j l ys/\∀D,j D=none->∃W:Nat->Nat->List V->Hp->Prop,(∃m,W 0 m [] (aJ j D (.lst [])))/\∀i m f h,W i m f h->((LB c K a l).stop i h/\F D h)\/((LB c K a l).go i h/\∀x B,(LB c K a l).yld i h x B->g x (io ds k E) B λn A=>tc n A λb t=>if b=true then te n t λy u=>u D=some (.lst f)/\f.length<sizeLine/\∃o,o<m/\W (i+1) o (f++[y]) (aJ u D (.lst (f++[y])))else∃o,o<m/\W (i+1) o f t):=by
 obtain⟨c,hc,H⟩:∃c,Ht c K j l ys/\∀h,am j h->Ht c K h l ys:=by
  rcases r with r|r
  ·exact⟨true,r,λ_ z=>z.seq r⟩
  ·exact⟨false,r,λ_ z=>am.tseq z r⟩
 refine⟨c,hc,λD C=>⟨λi m f h=>m=xs.length-i/\i<=xs.length/\Pv D i f h,⟨_,rfl,j1 _,h0 D C⟩,?_⟩⟩;rintro i m f h⟨rfl,hi,p⟩;obtain⟨q,v⟩:=hl D i f h p;have v:=H h v
 by_cases s:i<xs.length
 ·refine .inr ⟨⟨xs,ys,xs[i],ys[i],q,v,by simp[s],by simp[<-w,s]⟩,λx B y=>?_⟩;obtain⟨T,I,J,L,e,M,y⟩:=y;subst e M;obtain⟨y1,N⟩:=y xs ys q v;exact G D i I J f _ T C y1 N p L
 ·have e:i=xs.length:=Nat.le_antisymm hi (A_ s);subst e;exact .inl ⟨⟨xs,q,eN _⟩,hd D f h C p⟩
end
end L2
namespace L2
open PySem PySem.Spec PyProof.Rows PySem.W
def EY(hh:A.handled=none)(c t:Addr)(ne:t≠c)(a:N9):Draws P w A c [c,t] a.size (λi v=>a[i]?=some v) (λi h=>h.IsTupleIter c t i/\h.IsTuple t a)where
 live:=λ_ _ st=>let⟨o,e,_⟩:=st.1;⟨o,e⟩
 frame:=λ_ _ _ st k=>⟨st.1.at λo e=>k c (by simp) o e,st.2.at λo e=>k t (by simp) o e⟩
 item:=λi s Q E hi st q=>se st.1 st.2 (v:=a[i]) (by simp[hi]) λg d b=>q _ g s.toks (by simp[hi]) ⟨d,st.2.extBut b.extBut ne⟩ b
 done:=λs Q E st q=>xr hh st.1 st.2 (by simp) q
def yu(t:Addr)(a:N9)(n:Nat)(f:Option Addr)(sl:Array (Option Value)):Meets (Builtin.«enumerate.__new__» ⟨[.type "enumerate",.ref t],[]⟩) (λ_ R s=>s.heap.get? t=some {cls:=.type "tuple",dict:=f,data:=.seq a n,slots:=sl}/\R (.ok (.ret (.ref (FD s.heap t).objs.size))) {s with heap:=(FD s.heap t).push {cls:=.type "enumerate",data:=.fields #[.none,.bool false,.ref s.heap.objs.size,rawInt 0,.none,.none]}}):=.of_wp λprog w A R s h=>by
  obtain⟨i,g,d,tk,os⟩:=s;obtain⟨b,h⟩:=h;have f1:=sub_enumerate;have e:Heap.IsTuple (Shared.heap ⟨i,g,d,tk,os⟩) t a:=⟨_,b,rfl,n,rfl⟩
  wp_walk using M3 b
  refine wpAny_stack_any λst=>eH ?_
  split
  ·rename_i c _ _ _ _ _;cases(c==Value.type "enumerate")<;>(wp_walk using M3 b,E2 e)<;>exact⟨_,rfl,h⟩
  ·wp_walk using M3 b,E2 e
   exact⟨_,rfl,h⟩
def Aq(i:s.heap.IsTuple t a)(q:∀g,IsEnum g (s.heap.objs.size+1) s.heap.objs.size 0 .none->g.IsTupleIter s.heap.objs.size t 0->(∀b o,s.heap.get? b=some o->g.get? b=some o)->Q (.ref (s.heap.objs.size+1)) {s with heap:=g}):wpAny (model P w) A (call (.type "enumerate") [.ref t]) Q E s:=by
 obtain⟨⟨c,j,l,sl⟩,k,d,n,e⟩:=i;simp only at d e;subst d e;refine callType_new F.called_enumerate (by decide) (F.typeCall_enumerate_1 _) (F.newCall_enumerate_1 _) (λob=>F.args_object_init_2 ob _) F.entry_enumerate_new (yu t a n j sl) ⟨k,?_⟩;have f:(FD s.heap t).objs.size=s.heap.objs.size+1:=ni ..;show _/\_;rw[f];have h:IsEnum ((FD s.heap t).push {cls:=.type "enumerate",data:=.fields #[.none,.bool false,.ref s.heap.objs.size,rawInt 0,.none,.none]}) (s.heap.objs.size+1) s.heap.objs.size 0 .none:=by have z:=fy (FD s.heap t) (o:={cls:=.type "enumerate",data:=.fields #[.none,.bool false,.ref s.heap.objs.size,rawInt 0,.none,.none]}) rfl;rw[f]at z;exact z
 exact⟨⟨_,h,rfl⟩,q _ h ⟨_,c_ _ (fy _ rfl),rfl,rfl⟩ λb o x=>c_ _ (c_ _ x)⟩
def Ite(K:N1)(t:Addr):It:=⟨λi H=>∃a x,bd K H t a/\a[i]?=some x,λi H v b=>∃T x,H T=none/\v=.ref T/\b=aJ H T (.tup [.int i,x])/\∀a,bd K H t a->a[i]?=some x,λi H=>∃a,bd K H t a/\a.length=i⟩
def Bm{P:N6}{w:World}{K:N1}{r:N8}{x1:Nat}{F:Pos}{e a t:Addr}(n1:e≠a)(n2:t≠a)(n3:t≠e):u7 P w K (.Tuple r x1 F) (Ite K t) [e,a] e (λi h=>(∃d,IsEnum h e a i d)/\h.IsTupleIter a t i)where
 mem:=by simp
 obj:=λi h st b j=>by
  obtain⟨⟨_,a1⟩,ob,l,_,V⟩:=st;simp only[ot,m_,xn]at j;rcases j with rfl|rfl
  ·exact⟨_,a1,λv z=>by cases z⟩
  ·exact⟨_,l,λv z=>by rw[V]at z;cases z⟩
 keep:=λi h h' st k=>by obtain⟨⟨d,a1⟩,l⟩:=st;exact⟨⟨d,k e (by simp) _ a1⟩,l.at λob z=>k a (by simp) ob z⟩
 item:=by
  intro X G J L hc i m s R H E I B st hg;subst G J L;obtain⟨Y,x,C,S⟩:=hg;obtain⟨f,M,p,hz⟩:=I.tuple C;obtain⟨u,T,ru⟩:=M.get S;obtain⟨⟨d,a1⟩,l⟩:=st;have hi:i<f.toArray.size:=by rw[hE];exact(d_.mp T).1
  have n:X.A.in1.handled=none:=by simp[I.ok.hd hc]
  refine wpAny_pyNext_enum_itemD (EY n a t n2 f.toArray) a1 ⟨l,p⟩ hi n1 (by simp[n1,mu n3]) λv g tk D b1 b2 b3 b4 off=>?_;have Z:v=u:=by have D:f.toArray[i]?=some v:=D;rw[Mu,T]at D;exact(ir D).symm
  subst Z;refine⟨_,rfl,wpAny_letOwnedTupleGo_enum b1 λg' c1 N=>?_⟩;have lt:∀c∈[e,a],c≠s.heap.objs.size:=λc y z=>by
   have hs:∃ob,s.heap.get? c=some ob:=by
    simp only[ot,m_,xn]at y;rcases y with rfl|rfl
    ·exact⟨_,a1⟩
    ·obtain⟨ob,z,_⟩:=l;exact⟨ob,z⟩
   obtain⟨ob,h⟩:=hs;rw[z]at h;exact absurd (gV h) (nn _)
  have fresh:H s.heap.objs.size=none:=I.hok.fresh (eN _);have I1:aN X m R (aJ H s.heap.objs.size (.tup [.int i,x])) {s with heap:=s.heap.push {cls:=.type "tuple",data:=.seq #[.int i tk,v]},toks:=tk+1}:=I.laid (λb o z=>c_ _ z) (eN _) ⟨by rw[g8];simp,[.int i tk,v],.cons ⟨tk,rfl⟩ (.cons ru .nil),⟨_,fy _ rfl,rfl,_,rfl⟩⟩
  have I2:=kr (h':=g') (t':=tk+1) (ch:=[e,a]) I1 (λb o j z=>?_) (λb j=>?_)
  ·refine⟨.ref s.heap.objs.size,_,I2,rfl,⟨_,x,fresh,rfl,rfl,λaa h1=>by rw[I.tuple_inj h1 C];exact S⟩,⟨⟨_,by simpa using c1⟩,b2.1.extBut N.extBut (mu n1)⟩,λb j=>?_⟩;rw[ao (lt b j)];exact(B b j).1
  ·have q:b≠e/\b≠a:=by simpa using j
   by_cases U:b=s.heap.objs.size
   ·subst U;rw[fy _ rfl]at z;cases z;exact N.extBut _ _ q.1 b3
   ·have z':s.heap.get? b=some o:=by
     rcases ME z with⟨O,_⟩|O
     ·exact absurd O U
     ·exact O
    exact N.extBut _ _ q.1 (off b o q.1 q.2 z')
  ·obtain⟨f0,f1⟩:=B b j;exact⟨by rw[ao (lt b j)];exact f0,f1⟩
 done:=by
  intro X G J L hc i m s R H E I B st hg;subst G J L;obtain⟨Y,C,rfl⟩:=hg;obtain⟨f,M,p,hz⟩:=I.tuple C;have hl:=M.length;obtain⟨⟨d,a1⟩,l⟩:=st;have n:X.A.in1.handled=none:=by simp[I.ok.hd hc]
  have Q:s.heap.IsTupleIter a t f.toArray.size:=by rw[hE,<-hl];exact l
  refine wpAny_pyNext_enum_endD (EY n a t n2 f.toArray) a1 ⟨Q,p⟩ λg off=>⟨rfl,kr (t':=s.toks) (ch:=[e,a]) I (λb o j z=>?_) B⟩;have q:b≠e/\b≠a:=by simpa using j
  exact off b o q.2 z
 self:=λ_ _ _ _ _ st h=>by obtain⟨⟨d,a1⟩,_⟩:=st;exact wpAny_pyIter_enum a1 h
section
variable{X:Cx}
def Lk(K:N1)(c:TA):TI:=λb H R=>c b H λd a=>∃t e,d=[.ref t]/\bd K a t e/\R (Ite K t) a
def Gy(K:N1)(r:X.K=K){c:N8}{x1:Nat}{d:Pos}{a:Expr}{m:TA}{p f:Pos}(hg:Gl X "enumerate")(hm:X.mg "enumerate"=none)(v:PA X [a] m)(w:starEach [a] X.env=[(false,eval a X.env)]:=by rfl):PI X (.Tuple c x1 d) (.Call (.Name "enumerate" p) [a] [] f) (Lk K m):=by
 subst r;intro i s x H R I h;refine qx (kQ I hg hm L2.ui (tx (cw (v f i s x H _ I h) λF j⟨G,y,I1,z,A⟩=>?_) (by rw[w];rfl) (by rfl)));obtain⟨t,J,e,B,q⟩:=A;subst e;obtain⟨u,rfl,rt⟩:=jO z;obtain rfl:u=Value.ref t:=rt;obtain⟨l,L,pl,hz⟩:=I1.tuple B;obtain⟨M,C,_⟩:=id pl;have lt:=gV C;refine Aq (show j.heap.IsTuple t l.toArray from pl) λg n D E=>?_;refine wpAny_pyIter_enum n ⟨_,[j.heap.objs.size+1,j.heap.objs.size],_,_,y,rfl,I1.kept (t':=j.toks) E,Bm (t:=t) (lm (rk _)) (h_ lt) (h_ (t_ lt)),⟨⟨_,n⟩,D⟩,λb o=>?_,q⟩;have k:j.heap.objs.size<=b:=by
  simp only[ot,m_,xn]at o;rcases o with rfl|rfl
  ·exact M8 _ _
  ·exact eN _
 exact I1.fpOk k (I1.hok.fresh k)
end
end L2
namespace L2
open PySem PySem.Spec PyProof.Rows PySem.W
section
variable{X:Cx}
def wA:kT (qy P w) X (λ_ _ _=>False):=λ_ _ _ _ _ _ _ h=>by obtain⟨_,_,_,_,_,_,_,_,_,_,_,_,_,q⟩:=h;exact q.elim
end
end L2
namespace L2
open PySem PySem.Spec PyProof.Rows PySem.W
def Iti(P:N6)(w:World)(d:Addr)(a:List (cu×V))(c:Nat):It:=⟨λi H=>H d=some (dE P w d a c)/\i<a.length,λi H x b=>∃T k v,H T=none/\x=.ref T/\b=aJ H T (.tup [kV k,v])/\a[i]?=some (k,v),λi H=>H d=some (dE P w d a c)/\a.length<=i⟩
def zp{P:N6}{w:World}{K:N1}{l:N8}{x1:Nat}{t:Pos}(d f:Addr)(a:List (cu×V))(J:Nat):u7 P w K (.Tuple l x1 t) (Iti P w d a J) [f] f (λi h=>∃ok m,IsItemIter h f d i a.length J ok m)where
 mem:=by simp
 obj:=λi h st b g=>by
  have e:b=f:=by simpa using g
  subst e;obtain⟨_,_,e⟩:=st;exact⟨_,e,λv z=>by cases z⟩
 keep:=λi h h'⟨ok,m,e⟩k=>⟨ok,m,k f (by simp) _ e⟩
 item:=by
  intro X x y A hc i j s L H E I p st hg;subst x y A;obtain⟨hd,hi⟩:=hg;obtain⟨⟨_,B,q,C⟩,_⟩:=I.hok d _ hd;have c:a.length=B.length:=Paired.length q;have M:a[i]?=some a[i]:=fx hi;obtain⟨u,R,ru⟩:=wL q i a[i].1 a[i].2 M;obtain⟨ok,m,st⟩:=st;have lt:f<s.heap.objs.size:=gV st;rw[c]at st;refine wpAny_pyNext_items_item st C R λn h' S out T hz U=>?_;refine⟨_,rfl,wpAny_letOwnedTupleGo_items out λY N O=>?_⟩;rw[<-c]at N;have fresh:H s.heap.objs.size=none:=I.hok.fresh (eN _);have I1:aN X j L (aJ H s.heap.objs.size (.tup [kV a[i].1,a[i].2])) {s with heap:=s.heap.push {cls:=.type "tuple",data:=.seq #[n,u]}}:=I.laid (t':=s.toks) (λb o z=>c_ _ z) (eN _) ⟨by rw[g8];simp,[n,u],.cons (AR S) (.cons ru .nil),⟨_,fy _ rfl,rfl,_,rfl⟩⟩
  have Z:=kr (h':=Y) (t':=s.toks) (ch:=[f]) I1 (λb o g z=>?_) (λb g=>?_)
  ·refine⟨.ref s.heap.objs.size,_,Z,rfl,⟨_,a[i].1,a[i].2,fresh,rfl,rfl,M⟩,⟨_,_,N⟩,λb g=>?_⟩;have e:b=f:=by simpa using g
   subst e;rw[ao (h_ lt)];exact(p b g).1
  ·have D:b≠f:=by simpa using g
   by_cases r:b=s.heap.objs.size
   ·subst r;rw[fy _ rfl]at z;cases z;exact O.extBut _ _ D T
   ·have z':s.heap.get? b=some o:=by
     rcases ME z with⟨F,_⟩|F
     ·exact absurd F r
     ·exact F
    exact O.extBut _ _ D (U b o D z')
  ·have e:b=f:=by simpa using g
   subst e;obtain⟨G,f1⟩:=p b g;exact⟨by rw[ao (h_ lt)];exact G,f1⟩
 done:=by intro X x y A hc i j s L H E I p st hg;subst x y A;obtain⟨hd,hi⟩:=hg;obtain⟨⟨_,B,q,C⟩,_⟩:=I.hok d _ hd;have c:a.length=B.length:=Paired.length q;obtain⟨G,f1,f2,f3,f4,f5⟩:=p f (by simp);obtain⟨ok,m,st⟩:=st;rw[c]at st;exact wpAny_pyNext_items_end (I.ok.hd hc) st C (lh (by omega)) λh' r=>⟨rfl,I.turned (t':=s.toks) (λb o g e=>r b o g e) G f1 f3 f4 f5⟩
 self:=λ_ _ _ _ _ st h=>by obtain⟨_,_,st⟩:=st;exact kcp_self st h
section
variable{X:Cx}{P:N6}{w:World}{o:Expr}{i:TE}{c a f:Pos}{g:N8}{x1:Nat}
def JA(P:N6)(w:World)(i:TE):TI:=λj H R=>i j H λx e=>∃d b,x=.ref d/\e d=some (.dK b)/\∀h,R (Iti P w d b h) (aJ e d (dE P w d b h))
def xV(B:PE X o i)(C:X.prog=P:=by rfl)(D:X.w=w:=by rfl)(l:attributeBase o "items" X.env (eval o X.env)=eval o X.env:=by rfl)(m:(c.endLine==a.line)=true:=by rfl):PI X (.Tuple g x1 f) (.Call (.Attribute o "items" c) [] [] a) (JA P w i):=by
 subst C D;intro k s E H R I h;refine wpAny_Call_method0_late l m (cw (B k s E H _ I h) λv j G=>?_);obtain⟨x,T,I1,J,d,n,e,hd,q⟩:=G;subst e;obtain rfl:v=Value.ref d:=J;obtain⟨y,A,K,p,L,M⟩:=I1.walk hd;have r:n.length=A.length:=Paired.length K;obtain⟨ob,U,t,N,_⟩:=id p;refine⟨"dict","dict.items",PySem.F.plainAttrs_dict,PySem.F.slot_dict_items,PySem.F.type_dict_items,p.dictOf.typeIs,?_,pa rfl (PySem.evalArgs_none (wr PySem.F.slot_dict_items p.dictOf.typeIs PySem.F.entry_dict_items (PySem.F.args_dict_items_1 _) (meets_dict_items (aW X.prog X.w) d L) ⟨⟨A,p.dictOf⟩,?_⟩))⟩
 ·intro b z;cases z;exact⟨ob,t,N.2.1⟩
 ·have O:(j.heap.push {cls:=.type "dict_items",data:=.fields #[.ref d]}).IsItemsView j.heap.objs.size d:=⟨_,fy _ rfl,rfl,rfl⟩;show wpAny _ _ (pyIter (.ref j.heap.objs.size)) _ _ _;have u:=M.kept (h':=j.heap.push {cls:=.type "dict_items",data:=.fields #[.ref d]}) (t':=j.toks) λb o e=>c_ _ e;refine wpAny_pyIter_items (s:={j with heap:=j.heap.push {cls:=.type "dict_items",data:=.fields #[.ref d]}}) O (p.push _) ?_;refine⟨_,[(j.heap.push {cls:=.type "dict_items",data:=.fields #[.ref d]}).objs.size],_,_,_,rfl,u.kept (t':=j.toks) λb o e=>c_ _ e,zp d _ n y,⟨_,_,by rw[r];exact fy _ rfl⟩,λb S=>?_,q y⟩;have e:b=(j.heap.push {cls:=.type "dict_items",data:=.fields #[.ref d]}).objs.size:=by simpa using S
  subst e;exact u.fpOk (eN _) (u.hok.fresh (eN _))
end
end L2
namespace L2
open PySem PySem.Spec PyProof.Rows PySem.W
def pz(n:Nat){c:Type}(R:c->Prop):KasT c->Prop|.ret a=>R a|.ask i j k=>i<n/\j<n/\∀b,pz n R (k b)
theorem pz.bind{n:Nat}{c d:Type}{R:c->Prop}{S:d->Prop}{f:c->KasT d}(e:∀a,R a->pz n S (f a)):∀{t:KasT c},pz n R t->pz n S (t.bind f)|.ret a,h=>e a h|.ask i j k,h=>⟨h.1,h.2.1,λb=>pz.bind e (h.2.2 b)⟩
theorem pz.wp{n:Nat}{d:Type}{R:d->Prop}{c:Nat->Nat->(Bool->Shared->Prop)->Shared->Prop}{Q:d->Shared->Prop}{s:Shared}(hc:∀i j C,i<n->j<n->(∀b,C b s)->c i j C s)(e:∀a,R a->Q a s):∀{t:KasT d},pz n R t->t.kasWp c Q s|.ret a,h=>e a h|.ask i j k,h=>hc i j _ h.1 h.2.1 λb=>pz.wp hc e (h.2.2 b)
def PR(n:Nat)(p:Array Nat):Prop:=p.toList.Perm (List.range n)
def PR.lt(h:PR n p)(hn:0<n)(k:Nat):p.getD k 0<n:=by
 by_cases a:k<p.size
 ·have e:p.getD k 0=p[k]:=by simp[Array.getD,a]
  rw[e];exact n_.mp (h.mem_iff.mp (Array.mem_toList_iff.mpr (Array.getElem_mem a)))
 ·have e:p.getD k 0=0:=by simp[Array.getD,a]
  rw[e];exact hn
def PR.rev(h:PR n p)(i j:Nat):PR n (kas_rev p i j):=(mirror_perm p i j _).toList.trans h
section
variable{n:Nat}(hn:0<n)
include hn
theorem wM(h:PR n p):∀f m,pz n (λ_=>True) (kas_asc p f m)|0,_=>trivial|f+1,m=>⟨h.lt hn _,h.lt hn _,λb=>by cases b with|true=>exact trivial|false=>exact wM h f (m+1)⟩
theorem oW:∀(f:Nat){p:Array Nat}(m q:Nat),PR n p->pz n (λr:Array Nat×Nat×Nat=>PR n r.1) (kas_desc f p m q)|0,_,_,_,h=>h|f+1,p,m,q,h=>⟨h.lt hn _,h.lt hn _,λb=>by
 cases b with|true=>
   show pz n _ (if q>0 then _ else _)
   split
   ·exact oW f _ _ (h.rev _ _)
   ·exact oW f _ _ h|false=>refine⟨h.lt hn _,h.lt hn _,λd=>?_⟩;cases d with|true=>exact h|false=>exact oW f _ _ h⟩
def yB{p:Array Nat}(m r:Nat)(h:PR n p):pz n (λr:Nat×Array Nat=>PR n r.2) (kas_tail3 m r p):=pz.bind (S:=λr:Nat×Array Nat=>PR n r.2) (f:=λa=>.ret (a,kas_rev p 0 m)) (λ_ _=>h.rev _ _) (wM hn (h.rev _ _) _ _)
def yC{p:Array Nat}(m r:Nat)(h:PR n p):pz n (λr:Nat×Array Nat=>PR n r.2) (kas_descPart m r p):=pz.bind (λa b=>by
 show pz n _ (if a.2.2>0 then _ else _)
 split
 ·exact yB hn _ _ (b.rev _ _)
 ·exact yB hn _ _ b) (oW hn _ _ _ h)
def B9{p:Array Nat}(r:Nat)(h:PR n p):pz n (λr:Nat×Array Nat=>PR n r.2) (kas_count r p):=pz.bind (λm _=>by
 show pz n _ (if(m==r)=true then _ else _)
 split
 ·exact h
 ·split
  ·refine⟨h.lt hn _,h.lt hn _,λc=>?_⟩;cases c with|true=>exact h|false=>exact yC hn _ _ (h.rev _ _)
  ·exact yC hn _ _ h) (wM hn h _ _)
theorem pX{p:Array Nat}(h:PR n p)(k:Nat):∀f l r,pz n (λ_=>True) (kas_place p k f l r)
 |0,_,_=>trivial|f+1,l,r=>by
  show pz n _ (if l>=r then _ else _)
  split
  ·exact trivial
  ·refine⟨h.lt hn _,h.lt hn _,λc=>?_⟩;cases c with|true=>exact pX h k f _ _|false=>exact pX h k f _ _
theorem AV:∀(f:Nat){p:Array Nat}(k:Nat),PR n p->pz n (PR n) (kas_bin f p k)|0,_,_,h=>h|f+1,p,k,h=>pz.bind (λl _=>AV f _ ((bubble_perm p k _).toList.trans h)) (pX hn h _ _ _ _)
def Ez:pz n (PR n) (kas_sort n):=pz.bind (λr a=>by
 show pz n _ (if r.1<n then _ else _)
 split
 ·exact AV hn _ _ a
 ·exact a) (B9 hn _ (show(List.toArray (List.range n)).toList.Perm _ by exact .refl _))
end
section
variable{prog:N6}{w:World}{A:Around}{E:N2}{s:Shared}{κ:SortKind}
def Dp{a:Addr}{c:N5}{n:Nat}{P:Fin->Shared->Prop}(v:s.heap.get? a=some (seqObj "list" c.toArray n))(hz:c.length<64)(L:2<=c.length->∀g:Shared,(∀b o,b≠a->s.heap.get? b=some o->g.heap.get? b=some o)->(∀Q:SortKind->Shared->Prop,Q κ g->wpAny (model prog w) A (keyKind' c.toArray) Q (λ_ _=>False) g)/\∀x y C,x∈c->y∈c->(∀b,C b g)->wpAny (model prog w) A (keyLt' κ x y) C (λ_ _=>False) g)(h:∀out:List Value,out.Perm c->P (.done (.ret .none)) {s with heap:=sortedHeap s.heap a c out.toArray}):wpAny (model prog w) A (Builtin.«list.sort» ⟨[.ref a],[]⟩) P E s:=by
 rw[list_sort_plain];have B:c.toArray.size=c.length:=by simp
 refine a_ (listItems_at v rfl ?_);refine a_ (listUpdate_at v rfl ?_ (by rw[B,g8];lia) (j1 _));obtain⟨D,k⟩:∃D,(s.heap.update a (Obj.mapSeq λ_=>#[])).get? a=some (seqObj "list" #[] D):=⟨_,get?_update_seq v (λ_=>#[])⟩;refine a_ (seqEpoch_at k rfl ?_);refine a_ (wpAny_newTuple ?_ (by show c.length<=_;rw[g8];lia));refine a_ (wpAny_newList ?_ (j1 _));refine l_ ?_;have kept:∀b o,b≠a->s.heap.get? b=some o->(((s.heap.update a (Obj.mapSeq λ_=>#[])).push (seqObj "tuple" c.toArray 0)).push (seqObj "list" #[] 0)).get? b=some o:=λb o M q=>c_ _ (c_ _ ((Heap.get?_update_ne _ _ _ _ M).trans q))
 have d:(((s.heap.update a (Obj.mapSeq λ_=>#[])).push (seqObj "tuple" c.toArray 0)).push (seqObj "list" #[] 0)).get? a=some (seqObj "list" #[] D):=c_ _ (c_ _ k);show wpAny (model prog w) A _ P E {s with heap:=((s.heap.update a (Obj.mapSeq λ_=>#[])).push (seqObj "tuple" c.toArray 0)).push (seqObj "list" #[] 0)};dsimp only;have F:(c.toArray.zip c.toArray).size=c.length:=by simp
 by_cases h2:c.toArray.size<2
 ·rw[gn h2,gn h2];refine a_ (eH ?_);rw[StateT.run_pure];refine a_ (eH ?_);dsimp only;refine a_ (seqEpoch_at d rfl ?_);refine a_ (listUpdate_at d rfl ?_ (j1 _) (by refine j_ (B_ ((Array.size_map ..).trans F)) ?_;rw[g8];lia));simp only[bne_self_eq_false,G_,M6];have e:(c.toArray.zip c.toArray).map (·.2)=c.toArray:=by
   apply Array.toList_inj.mp;have e:(c.toArray.zip c.toArray).toList=c.zip c:=by simp
   rw[Array.toList_map,e];exact List.map_snd_zip (eN _)
  have:=h c (.refl _);rw[<-e]at this;exact eH this
 ·rw[ge h2,ge h2];have l:2<=c.length:=by lia
  obtain⟨N,O⟩:=L l {s with heap:=((s.heap.update a (Obj.mapSeq λ_=>#[])).push (seqObj "tuple" c.toArray 0)).push (seqObj "list" #[] 0)} kept;refine a_ (wpAny_mono (N (λm K=>m=κ/\K={s with heap:=((s.heap.update a (Obj.mapSeq λ_=>#[])).push (seqObj "tuple" c.toArray 0)).push (seqObj "list" #[] 0)}) ⟨rfl,rfl⟩) (λm K z=>?_) λ_ _ x=>x.elim);obtain⟨rfl,rfl⟩:=z;refine a_ (wpAny_mono (kat_run (ks:=c) (vs:=c) (Q:=λf r=>∃p:Array Nat,arrOf f=p.map (kas_item (c.toArray.zip c.toArray))/\failedOf f=none/\PR c.length p/\r=_) (G:=λp r=>PR c.length p/\r=_) rfl l hz (λp f r a1 S T a4=>⟨p,S,T,a4⟩) (pz.wp (λi j C hi hj U=>?_) (λp u=>⟨u,rfl⟩) (Ez (by lia)))) ?_ λ_ _ e=>e)
  ·unfold kas_ask;have mem:∀i,i<c.length->c.getD i Value.none∈c:=λi hi=>by rw[t2,fx hi];exact Mz hi
   exact O _ _ C (mem i hi) (mem j hj) U
  ·rintro⟨⟨⟩,f⟩r⟨p,H,V,u,rfl⟩;dsimp only;have t:=kat_snds (ks:=c) (vs:=c) rfl H;have I:p.toList.length=c.length:=by rw[u.length_eq,md]
   have J:(p.toList.map λi=>c.getD i Value.none).Perm c:=by
    refine(u.map λi=>c.getD i Value.none).trans (NX ?_);refine sT λi=>?_;rw[f_]
    by_cases hi:i<c.length
    ·rw[Ny hi];simp[hi]
    ·rw[lh (by rw[md];lia),lh (by lia)];rfl
   rw[t];refine a_ (seqEpoch_at d rfl ?_);refine a_ (listUpdate_at d rfl ?_ (j1 _) (by rw[hE,b_,I,g8];lia));rw[V];simp only[bne_self_eq_false,G_,M6];exact eH (h _ J)
end
def zd(h:Heap)(v:Value):Prop:=∃a o n x y z t u b,v=.ref a/\h.get? a=some o/\o.cls=.type "tuple"/\o.data=.seq #[.str x t,.str y u,.str z b] n
def zd.kept(p:zd h v)(k:∀b o,h.get? b=some o->h'.get? b=some o):zd h' v:=by obtain⟨a,o,n,x,y,z,t,u,c,e,d,r⟩:=p;exact⟨a,o,n,x,y,z,t,u,c,e,k _ _ d,r⟩
section
variable{prog:N6}{w:World}{A:Around}{E:N2}{s:Shared}
def FH(g:zd s.heap v)(h:zd s.heap u)(d:∀b,C b s):wpAny (model prog w) A (keyLt' (tuples' true) v u) C (λ_ _=>False) s:=by obtain⟨a,o,n,x,y,z,p,q,r,rfl,i,hc,hd⟩:=g;obtain⟨B,D,F,G,H,I,j,k,l,rfl,e,m,f⟩:=h;have c:∀{x y:Str}{t u:Tok},wpAny (model prog w) A (oneLt' false (.str x t) (.str y u)) C (λ_ _=>False) s:=λ{x y t u}=>kat_one _ _ (lt_str (d _));refine kat_lt i hd e f (kat_cons (M5 (kat_go (λ_=>kat_yes (kat_cons (M5 (kat_go (λ_=>kat_yes (kat_cons (M5 (kat_go (λ_=>kat_yes (kat_nil (d _))) (λ_=>kat_no c))))) (λ_=>kat_no c))))) (λ_=>kat_no (oneLt_str (d _))))))
theorem qA:∀{c:N5},(∀v∈c,zd h v)->∃fs:List Value,KatTups h c fs/\fs.length=c.length/\∀v∈fs,∃x t,v=Value.str x t
 |[],_=>⟨[],.nil,rfl,λv b=>nomatch b⟩|u::r,d=>by
  obtain⟨a,o,n,x,y,z,e,g,i,rfl,f,hc,hd⟩:=d u (hF ..);obtain⟨fs,h1,h2,h3⟩:=qA λv b=>d v (g_ _ b);refine⟨.str x e::fs,.cons f hc hd rfl h1,by simp[h2],λv b=>?_⟩;rcases ot.mp b with rfl|b
  ·exact⟨_,_,rfl⟩
  ·exact h3 v b
def zt(hl:s.heap.IsList l vs.toArray)(hz:vs.length<64)(g:∀v∈vs,zd s.heap v)(h:∀out:List Value,out.Perm vs->Q (.ref (s.heap.objs.size+1)) {s with heap:=sortedAll s.heap vs out.toArray}):wpAny (model prog w) A (call (.builtin "sorted") [.ref l]) Q E s:=by
 refine Calls.call_function_entry kind_sorted plain_sorted entry_sorted (args_sorted1 _) ?_;unfold Builtin.«sorted»;refine a_ (m:=checkCount "sorted" 1 1 _) (eH ?_);refine a_ (collect_list hl ?_ (by rw[g8];lia));refine a_ (wpAny_newList ?_ (by rw[g8];lia));have c:((s.heap.push (seqObj "list" #[] 0)).update s.heap.objs.size (Obj.mapSeq (·++vs.toArray))).objs.size=s.heap.objs.size+1:=by rw[Heap.size_update,size_push']
 have e:(((s.heap.push (seqObj "list" #[] 0)).update s.heap.objs.size (Obj.mapSeq (·++vs.toArray))).push (seqObj "list" vs.toArray 0)).get? (s.heap.objs.size+1)=some (seqObj "list" vs.toArray 0):=by rw[<-c];exact fy _ rfl
 have keep:∀b o,s.heap.get? b=some o->b≠s.heap.objs.size+1/\(((s.heap.push (seqObj "list" #[] 0)).update s.heap.objs.size (Obj.mapSeq (·++vs.toArray))).push (seqObj "list" vs.toArray 0)).get? b=some o:=λb o q=>by have a:b<s.heap.objs.size:=gV q;refine⟨h_ (t_ a),?_⟩;rw[Heap.get?_push_ne _ _ _ (by rw[c];exact h_ (t_ a)),Heap.get?_update_ne _ _ _ _ (h_ a),Heap.get?_push_ne _ _ _ (h_ a)];exact q
 show wpAny _ _ _ _ _ {s with heap:=((s.heap.push (seqObj "list" #[] 0)).update s.heap.objs.size (Obj.mapSeq (·++vs.toArray))).push (seqObj "list" vs.toArray 0)};rw[c];refine a_ (l_ (m3 slot_list_sort (s:={s with heap:=((s.heap.push (seqObj "list" #[] 0)).update s.heap.objs.size (Obj.mapSeq (·++vs.toArray))).push (seqObj "list" vs.toArray 0)}) ⟨_,e,rfl⟩ entry_list_sort (Dp (κ:=tuples' true) e hz (λh2 i j=>?_) λout a1=>⟨_,rfl,?_⟩) (args_list_sort _)))
 ·have d:∀v∈vs,zd i.heap v:=λv f=>(g v f).kept λb o q=>j b o (keep b o q).1 (keep b o q).2;refine⟨λB k=>?_,λx y C n p r=>FH (d x n) (d y p) r⟩;obtain⟨fs,h1,u,h3⟩:=qA d;refine kat_kind (T:=Value.type "str") h1 (by lia) (λv f=>?_) (by decide+kernel) ?_
  ·obtain⟨x,t,rfl⟩:=h3 v f;exact Looks.of_pure rfl
  ·rw[show(Value.type "str"!=Value.type "tuple")=true by decide+kernel];exact k
 ·exact eH ⟨_,rfl,h out a1⟩
end
theorem AI:∀{c:Oa}{a:N5},be (c.map V.ref) a->a=c.map Value.ref|[],_,.nil=>rfl|u::r,_,.cons h t=>by obtain rfl:_=Value.ref u:=h;rw[AI t];rfl
theorem AN:∀{a:Oa},be (a.map V.ref) (a.map Value.ref)|[]=>.nil|_::_=>.cons rfl AN
def BM(h:out.Perm (c.map Value.ref)):∃d:List Addr,d.Perm c/\out=d.map Value.ref:=by
 let f:Value->Addr:=λv=>match v with|.ref a=>a|_=>0
 have e:(c.map Value.ref).map f=c:=by rw[rx];exact(C_ (g:=id) λa _=>rfl).trans (List.map_id c)
 have i:(out.map f).map Value.ref=out:=by rw[rx];refine(C_ (g:=id) λv j=>?_).trans (List.map_id out);obtain⟨a,_,rfl⟩:=ig.mp (h.mem_iff.mp j);rfl
 have b:=h.map f;rw[e]at b;exact⟨_,b,i.symm⟩
def An(K:N1)(A:X.K=K):db X (.builtin "sorted") (λl H Q=>∃(p:Addr)(c:Oa),l=[.ref p]/\aX K H p (c.map V.ref)/\c.length<64/\(∀u∈c,∃x y z,bd K H u [.str x,.str y,.str z])/\∀(q:Addr)(d:Oa),H q=none->d.Perm c->Q (.ref q) (aJ H q (.lst (d.map V.ref)))):=by
 subst A;intro m s P H l R Q I r h;obtain⟨p,c,rfl,B,hn,C,q⟩:=h;obtain⟨u,rfl,D⟩:=jO r;obtain rfl:u=Value.ref p:=D;obtain⟨e,f,⟨o,n,g,i,w,E⟩,_⟩:=I.list B;obtain rfl:=AI f;refine zt (vs:=c.map Value.ref) ⟨o,g,i,n,E⟩ (by rw[b_];lia) (λv F=>?_) λout j=>?_
 ·obtain⟨a,hm,rfl⟩:=ig.mp F;obtain⟨x,y,z,G⟩:=C a hm;obtain⟨e,f,⟨o,g,i,n,w⟩,_⟩:=I.tuple G;cases f with|cons h1 t=>cases t with|cons h2 t=>cases t with|cons h3 t=>cases t;obtain⟨J,rfl⟩:=h1;obtain⟨L,rfl⟩:=h2;obtain⟨M,rfl⟩:=h3;exact⟨a,o,n,x,y,z,J,L,M,rfl,g,i,w⟩
 ·obtain⟨d,b,rfl⟩:=BM j;obtain⟨N,k⟩:=sortedAll_at s.heap (c.map Value.ref) (d.map Value.ref).toArray;have O:=b.length_eq;refine⟨.ref (s.heap.objs.size+1),_,I.laid (h':=sortedAll s.heap (c.map Value.ref) (d.map Value.ref).toArray) (t':=s.toks) (o:=.lst (d.map V.ref)) (λ_ _=>sortedAll_old) (ov _) ⟨?_,_,N,AN,k⟩,rfl,q _ d (I.hok.fresh (ov _)) b⟩;rw[b_,g8];lia
end L2
namespace L2
open PySem PySem.Spec PyProof.Rows PySem.W
def wT{J:It}{n:Nat}{g:TG}{ds:N_}{k:Nat}{tc:TT}{te:TE}{s:St}{t:Hp}{D:Addr}{F:Hp->Prop}(Pv:Nat->List V->Hp->Prop)(h0:Pv 0 [] (aJ t D (.lst [])))(hg:∀i a c,i<n->Pv i a c->J.go i c)(u:∀i a c x h,i<n->Pv i a c->J.yld i c x h->g x (io ds k s) h λd r=>tc d r λb j=>if b=true then te d j λy l=>l D=some (.lst a)/\a.length<sizeLine/\∃f,f<n-i/\f=n-(i+1)/\i+1<=n/\Pv (i+1) (a++[y]) (aJ l D (.lst (a++[y])))else∃f,f<n-i/\f=n-(i+1)/\i+1<=n/\Pv (i+1) a j)(hd:∀a c,Pv n a c->J.stop n c/\F c):∃W:Nat->Nat->List V->Hp->Prop,(∃m,W 0 m [] (aJ t D (.lst [])))/\∀i m a c,W i m a c->(J.stop i c/\F c)\/(J.go i c/\∀x h,J.yld i c x h->g x (io ds k s) h λd r=>tc d r λb j=>if b=true then te d j λy l=>l D=some (.lst a)/\a.length<sizeLine/\∃f,f<m/\W (i+1) f (a++[y]) (aJ l D (.lst (a++[y])))else∃f,f<m/\W (i+1) f a j):=by
 refine⟨λi m a c=>m=n-i/\i<=n/\Pv i a c,⟨_,rfl,j1 _,h0⟩,?_⟩;rintro i m a c⟨rfl,hi,p⟩
 by_cases o:i<n
 ·exact .inr ⟨hg i a c o p,λx h y=>u i a c x h o p y⟩
 ·have e:i=n:=by lia
  subst e;exact .inl (hd a c p)
def EU{J:It}{n:Nat}{g:TG}{j:TS}{D:lq}{a:St}{H:Hp}(Pv:Nat->St->Hp->Prop)(h0:Pv 0 a H)(hg:∀i a H,i<n->Pv i a H->J.go i H)(o:∀i a H x c,i<n->Pv i a H->J.yld i H x c->g x a c λd h=>j {D with nx:=Pv (i+1),ct:=Pv (i+1),bk:=D.nx} d h)(hd:∀a H,Pv n a H->J.stop n H/\D.nx a H):∃W:Nat->Nat->St->Hp->Prop,(∃m,W 0 m a H)/\∀i m a H,W i m a H->(J.stop i H/\D.nx a H)\/(J.go i H/\∃N:St->Hp->Prop,(∀f c,N f c->∃l,l<m/\W (i+1) l f c)/\∀x c,J.yld i H x c->g x a c λd h=>j {D with nx:=N,ct:=N,bk:=D.nx} d h):=by
 refine⟨λi m a H=>m=n-i/\i<=n/\Pv i a H,⟨n,by simp,j1 _,h0⟩,?_⟩;rintro i m a H⟨rfl,hi,p⟩
 by_cases b:i<n
 ·exact .inr ⟨hg i a H b p,Pv (i+1),λf c k=>⟨n-(i+1),by omega,rfl,b,k⟩,λx c y=>o i a H x c b p y⟩
 ·have e:i=n:=by lia
  subst e;exact .inl (hd a H p)
end L2
namespace L2
open PySem
def rF{K:N1}{f:Str}{a C dx:Addr}{fs:List (Str×V)}{v:V}{H:Hp}{R:V->Prop}(h:H a=some (.ins C dx fs))(hc:xj K C)(hn:bZ K C f)(j:fs.lookup f=some v)(k:R v):∃g d e c i,V.ref a=.ref g/\H g=some (.ins d e c)/\xj K d/\bZ K d f/\c.lookup f=some i/\R i:=⟨a,C,dx,fs,v,rfl,h,hc,hn,j,k⟩
def rM{a C dx:Addr}{m:Str}{fs:List (Str×V)}{H:Hp}{R:Prop}(h:H a=some (.ins C dx fs))(hn:fs.lookup m=none)(k:R):∃e d c,V.ref a=.ref e/\H e=some (.ins C d c)/\c.lookup m=none/\R:=⟨a,dx,fs,rfl,h,hn,k⟩
def rG{d:Type}{a:Addr}{A R:Addr->d->Prop}(v:d)(h:A a v)(k:R a v):∃c e,V.ref a=.ref c/\A c e/\R c e:=⟨a,v,rfl,h,k⟩
def rX{A:Addr->List V->Prop}{p:Addr}{c:List V}{i:Int}{v:V}{R:V->Prop}(h:A p c)(g:um c i=some v)(k:R v):∃d a e f,V.ref p=.ref d/\V.int i=.int e/\A d a/\um a e=some f/\R f:=⟨p,c,i,v,rfl,rfl,h,g,k⟩
def rA{l:Addr}{c:List V}{y:V}{H:Hp}{R:Addr->List V->V->Prop}(h:H l=some (.lst c))(hl:c.length<sizeLine)(k:R l c y):∃d a e,V.ref l=.ref d/\[y]=[e]/\H d=some (.lst a)/\a.length<sizeLine/\R d a e:=⟨l,c,y,rfl,rfl,h,hl,k⟩
def r2{i j:Int}{R:Int->Int->Prop}(k:R i j):∃a c,V.int i=.int a/\V.int j=.int c/\R a c:=⟨i,j,rfl,rfl,k⟩
def U{a:Type}{A R:a->Prop}{v:a}(h:A v)(k:R v):∃v,A v/\R v:=⟨v,h,k⟩
def gG{K:N1}{f:Str}{a C dx:Addr}{fs:List (Str×V)}{o:Option (Option V)}{v:V}{H:Hp}{R:V->Prop}(h:H a=some (.ins C dx fs))(hc:xj K C)(hn:bZ K C f)(h0:o=some (some (.ref a)))(j:fs.lookup f=some v)(k:R v):∃w,o=some (some w)/\∃g d e c i,w=.ref g/\H g=some (.ins d e c)/\xj K d/\bZ K d f/\c.lookup f=some i/\R i:=⟨_,h0,a,C,dx,fs,v,rfl,h,hc,hn,j,k⟩
def lj{a C dx:Addr}{m:Str}{fs:List (Str×V)}{o:Option (Option V)}{H:Hp}{R:V->Prop}(h:H a=some (.ins C dx fs))(h0:o=some (some (.ref a)))(hn:fs.lookup m=none)(k:R (.ref a)):∃w,o=some (some w)/\∃e d c,w=.ref e/\H e=some (.ins C d c)/\c.lookup m=none/\R w:=⟨_,h0,a,dx,fs,rfl,h,hn,k⟩
end L2
namespace L2
open PySem PySem.Spec PyProof.Rows PySem.W
section
variable{X:Cx}
theorem xq:∀e:List Str,PyData.eqvAll (e.map PyData.str) (e.map PyData.str)=true|[]=>rfl|x::r=>by rw[ku,PyData.eqvAll,xq r];simp[PyData.eqv]
end
end L2
namespace L2
open PySem PySem.Spec PyProof.Rows PySem.W
set_option genInjectivity false in
set_option genSizeOf false in
structure AF where
 x:Addr
 d:FuncData
structure Df(K:N1)(mg:N4)(n:Str)(st:Stmt)(a:AF)(ps:N7):Prop where
 f:xi K n n st a.x a.d
 m:mg n=some (.ref a.x)b:fu K a.d ps []
structure Mf(K:N1)(C:Addr)(n q:Str)(st:Stmt)(a:AF)(ps:N7):Prop where
 f:xi K n q st a.x a.d
 m:Fy K C n a.x
 b:fu K a.d ps []
section
variable{K:N1}{h:Heap}{mg:N4}{n q:Str}{st:Stmt}{x C:Addr}{fd:FuncData}
def HU{c:N7}(X:K.In h)(G:h.Ns mainGlobals mg)(a:PySem.W.nsIn K mainGlobals n=some (some (.ref x)))(F:xi K n n st x fd)(b:xi K n n st x fd->fu K fd c []):Df K mg n st ⟨x,fd⟩ c:=⟨F,PySem.W.mg_of X G a,b F⟩
def K5{c:N7}(a:PySem.W.findIn K (.ref C) n=some (some (.ref x)))(i:PySem.W.isFn K (.ref x)=true)(F:xi K n q st x fd)(b:xi K n q st x fd->fu K fd c []):Mf K C n q st ⟨x,fd⟩ c:=⟨F,⟨a,i,F.kp⟩,b F⟩
def Lm(X:K.In h)(G:h.Ns mainGlobals mg)(a:PySem.W.nsIn K mainGlobals n=some (some (.ref x))):mg n=some (.ref x):=PySem.W.mg_of X G a
def Km(X:K.In h)(G:h.Ns mainGlobals mg)(a:PySem.W.nsIn K mainGlobals n=some none):mg n=none:=PySem.W.mg_none_of X G a
def Ld{i:Int}{t:Tok}(X:K.In h)(G:h.Ns mainGlobals mg)(a:PySem.W.nsIn K mainGlobals n=some (some (.int i t))):∃u,mg n=some u/\aY (.int i) u:=⟨_,PySem.W.mg_of X G a,_,rfl⟩
def KK{i:Str}{t:Tok}(X:K.In h)(G:h.Ns mainGlobals mg)(a:PySem.W.nsIn K mainGlobals n=some (some (.str i t))):∃u,mg n=some u/\aY (.str i) u:=⟨_,PySem.W.mg_of X G a,_,rfl⟩
def Lo(a:PySem.W.excIn K x [.type "ValueError",.type "Exception",.type "BaseException",.type "object"] "ValueError.__new__"=true):va K x:=a
def AQ(a:PySem.W.findIn K (.ref C) n=some none):bZ K C n:=a
def Lc{dd:Option Addr}{a:N9}{d:Nat}{sl:Array (Option Value)}{c:List V}(w:K.lookup x=some ⟨.type "tuple",dd,.seq a d,sl⟩)(y:be c a.toList)(l:Nat.ble c.length 65536=true):L2.LM K x c:=⟨_,a,d,w,rfl,rfl,by rw[<-j2,<-y.length];exact df (Nat.le_of_ble_eq_true l),y⟩
abbrev Kg(st:Stmt)(n q:Str)(kV a pm:Value)(d:Option Addr)(c ct:Value)(e:N5):=bindArgs (PySem.W.fnOf n q (pd st) (gx st) (ai st) .none kV a pm d c ct) ⟨e,[]⟩
variable{c d e f g j:Str}
def uY{n:Nat}{i:N5}(h:i.length=n+1):∃u a,i=u::a/\a.length=n:=by cases i with|nil=>cases h|cons u a=>exact⟨u,a,rfl,Nat.succ.inj h⟩
def b1(F:xi K n q st x fd)(h:∀kV a pm l i ct u,Kg st n q kV a pm l i ct [u]=pure [(c,u)]:=by intros;rfl):fu K fd [c] []:=F.binds λkV a pm l i ct b hl=>by obtain⟨u,b,rfl,h1⟩:=uY hl;cases oi.mp h1;exact h kV a pm l i ct u
def b2(F:xi K n q st x fd)(h:∀kV a pm l i ct u v,Kg st n q kV a pm l i ct [u,v]=pure [(c,u),(d,v)]:=by intros;rfl):fu K fd [c,d] []:=F.binds λkV a pm l i ct b hl=>by obtain⟨u,b,rfl,h1⟩:=uY hl;obtain⟨v,b,rfl,h2⟩:=uY h1;cases oi.mp h2;exact h kV a pm l i ct u v
def b3(F:xi K n q st x fd)(h:∀kV a pm l i ct u v w,Kg st n q kV a pm l i ct [u,v,w]=pure [(c,u),(d,v),(e,w)]:=by intros;rfl):fu K fd [c,d,e] []:=F.binds λkV a pm l i ct b hl=>by obtain⟨u,b,rfl,h1⟩:=uY hl;obtain⟨v,b,rfl,h2⟩:=uY h1;obtain⟨w,b,rfl,h3⟩:=uY h2;cases oi.mp h3;exact h kV a pm l i ct u v w
def b4(F:xi K n q st x fd)(h:∀kV a pm l i ct u v w y,Kg st n q kV a pm l i ct [u,v,w,y]=pure [(c,u),(d,v),(e,w),(f,y)]:=by intros;rfl):fu K fd [c,d,e,f] []:=F.binds λkV a pm l i ct b hl=>by obtain⟨u,b,rfl,h1⟩:=uY hl;obtain⟨v,b,rfl,h2⟩:=uY h1;obtain⟨w,b,rfl,h3⟩:=uY h2;obtain⟨y,b,rfl,h4⟩:=uY h3;cases oi.mp h4;exact h kV a pm l i ct u v w y
def b5(F:xi K n q st x fd)(h:∀kV a pm l i ct u v w y z,Kg st n q kV a pm l i ct [u,v,w,y,z]=pure [(c,u),(d,v),(e,w),(f,y),(g,z)]:=by intros;rfl):fu K fd [c,d,e,f,g] []:=F.binds λkV a pm l i ct b hl=>by obtain⟨u,b,rfl,h1⟩:=uY hl;obtain⟨v,b,rfl,h2⟩:=uY h1;obtain⟨w,b,rfl,h3⟩:=uY h2;obtain⟨y,b,rfl,h4⟩:=uY h3;obtain⟨z,b,rfl,h5⟩:=uY h4;cases oi.mp h5;exact h kV a pm l i ct u v w y z
def b6(F:xi K n q st x fd)(h:∀kV a pm l i ct u v w y z r,Kg st n q kV a pm l i ct [u,v,w,y,z,r]=pure [(c,u),(d,v),(e,w),(f,y),(g,z),(j,r)]:=by intros;rfl):fu K fd [c,d,e,f,g,j] []:=F.binds λkV a pm l i ct b hl=>by obtain⟨u,b,rfl,h1⟩:=uY hl;obtain⟨v,b,rfl,h2⟩:=uY h1;obtain⟨w,b,rfl,h3⟩:=uY h2;obtain⟨y,b,rfl,h4⟩:=uY h3;obtain⟨z,b,rfl,h5⟩:=uY h4;obtain⟨r,b,rfl,h6⟩:=uY h5;cases oi.mp h6;exact h kV a pm l i ct u v w y z r
end
def cd{i j:Int}(h:decide (0<j/\j<1073741824)=true):fk i j:=(i_ h:0<j/\j<1073741824)
def ls{n:Nat}(h:Nat.ble n 65536=true):n<=sizeLine:=df (Nat.le_of_ble_eq_true h)
section
variable{X:Cx}{n:Str}{st:Stmt}{a:AF}{l:N7}{sp:Sp}{j k:Nat}{e:Expr}{h:N8}{t:TA}{p c:Pos}
def pc(D:Df X.K X.mg n st a l)(F:aQ X.prog X.w X.K X.mg X.base dB j a.x a.d l sp)(o:eQ k X.A)(r:PA X (e::h) t)(hl:j<=k:=by decide)(hg:Gl X n:=by rfl)(g:(n==("__debug__":Str))=false:=by decide)(s:starEach (e::h) X.env=(false,eval e X.env)::starEach h X.env:=by rfl)(i:(backTo c (starEach h X.env)).any (·.1)=false:=by rfl):PE X (.Call (.Name n p) (e::h) [] c) (CO sp [] E0 t):=bB (F.mono hl) o hg D.m D.f.kp D.b .nil bq r g s i
def bj(i:Nat){x:Str}{te:TE}{d:Pos}(g:X.N.Nodup)(m:PE X e te)(hi:X.N[i]?=some x:=by rfl)(f:X.env.scope.names.lookup x=some .local:=by rfl)(o:swapsWith e (some (.Name x d)) c.line X.env=pure false:=by rfl):PS X (.Assign [.Name x d] e c) (zq te (ld i)):=nA g hi (.inl f) m o (.inr f)
def qF(i:Nat){x:Str}(f:X.N.Nodup)(hi:X.N[i]?=some x:=by rfl)(d:X.env.scope.names.lookup x=some .local:=by rfl):PG X (.Name x c) (ld i):=wz f hi (.inl d) (.inr d)
def oI(N0 d:N7)(i:Nat){x:Str}(f:(N0++d).Nodup:=by decide+kernel)(g:X.N=N0++d:=by rfl)(hi:(N0++d)[i]?=some x:=by rfl)(m:Kk X.env.scope x:=by first|exact Or.inl rfl|exact Or.inr rfl)(o:X.fn x=true\/X.env.scope.names.lookup x=some .local:=by first|exact .inl rfl|exact .inr rfl):PG X (.Name x c) (ld i):=by rw[<-g]at f hi;exact wz f hi m o
def rT(N0 d:N7)(ds r:N_)(i:Scope){m s f:Expr}{o:N8}{scope:Scope}{w:TI}{g:TG}{tc:TT}{te:TE}(hg:GK g r)(hi:PI X s f w)(y:∀cl C s₀ H₀ ex,PG (X.comp scope (N0++d) cl C s₀ H₀ ex) s g/\Hu (X.comp scope (N0++d) cl C s₀ H₀ ex) o tc/\PE (X.comp scope (N0++d) cl C s₀ H₀ ex) m te)(hc:X.calm=true:=by rfl)(u:X.N=N0:=by rfl)(v:X.env.scope=i:=by rfl)(ok:qh N0 ds i scope=true:=by decide+kernel)(hj:(r.all λj=>ds.contains j||decide (N0.length<=j))=true:=by decide+kernel)(z:∀x,foldedSetIterable f X.env x=pure x:=by intro _;rfl):PE X (.ListComp m [⟨s,f,o,0⟩] scope c) (sj w g ds d.length tc te):=Hh N0 d ds r i hc u v ok hj hg hi y z
def Lv(i:Nat)(N0 d:N7)(ds w:N_)(m:Scope){x:Str}{o r:Pos}{s v f:Expr}{u:N8}{scope:Scope}{E:TI}{g:TG}{tc:TT}{te:TE}(hg:GK g w)(hi:PI X v f E)(F:∀cl C s₀ H₀ ex,PG (X.comp scope (N0++d) cl C s₀ H₀ ex) v g/\Hu (X.comp scope (N0++d) cl C s₀ H₀ ex) u tc/\PE (X.comp scope (N0++d) cl C s₀ H₀ ex) s te)(y:N0.Nodup)(hc:X.calm=true:=by rfl)(z:X.N=N0:=by rfl)(A:X.env.scope=m:=by rfl)(ok:qh N0 ds m scope=true:=by decide+kernel)(hj:(w.all λj=>ds.contains j||decide (N0.length<=j))=true:=by decide+kernel)(B:N0[i]?=some x:=by rfl)(G:m.names.lookup x=some .local:=by rfl)(D:swapsWith (.ListComp s [⟨v,f,u,0⟩] scope c) (some (.Name x o)) r.line X.env=pure true:=by rfl)(H:∀x,foldedSetIterable f X.env x=pure x:=by intro _;rfl):PS X (.Assign [.Name x o] (.ListComp s [⟨v,f,u,0⟩] scope c) r) (zq (sj E g ds d.length tc te) (ld i)):=Fd N0 d ds w m hc z A ok hj hg hi F y B G D H
def gB(K:N1){a b:Expr}{d f:TE}(g:PE X a d)(i:PE X b f)(m:X.K=K:=by rfl)(o:xb b:=by intro _ _;rfl):PE X (.Subscript a b c) (J7 (IU K) d f):=xW (EB K m) g i o
def dg(K:N1){a b:Expr}{d f:TE}(g:PE X a d)(i:PE X b f)(m:X.K=K:=by rfl)(o:xb b:=by intro _ _;rfl):PE X (.Subscript a b c) (J7 (IT K) d f):=xW (GY K m) g i o
end
section
variable{P:N6}{w:World}{K:N1}{mg:N4}{base:Heap}{n q:Str}{st:Stmt}{a:AF}{C:Addr}{N c:N7}{k:Nat}{sp:Sp}
theorem Df.ok(D:Df K mg n st a c)(S:av N c (ai st))(e:∀(g:Value)(A:Around)(outer:List Env)(s:Shared)(H:Hp)(i:List V)(Q:VK)(E:XK),eQ k (A.deeper (envOfC n (ai st) s.heap.objs.size a.x g))->sp i H Q E->∃t,uA (qf dB P w K mg base N n (ai st) a.x g A outer s H E).nox (gx st) t/\t {nx:=λ_ j=>Q .non j,rt:=Q} (iP N i) H)(len:∀i H Q E,sp i H Q E->i.length=c.length:=by intro _ _ _ _ h;cases h;subst_vars;rfl):aQ P w K mg base dB (k+1) a.x a.d c sp:=D.f.ok S len e
theorem Mf.ok(D:Mf K C n q st a c)(S:av N c (ai st))(e:∀(g:Value)(A:Around)(outer:List Env)(s:Shared)(H:Hp)(i:List V)(Q:VK)(E:XK),eQ k (A.deeper (envOfC q (ai st) s.heap.objs.size a.x g))->sp i H Q E->∃t,uA (qf dB P w K mg base N q (ai st) a.x g A outer s H E).nox (gx st) t/\t {nx:=λ_ j=>Q .non j,rt:=Q} (iP N i) H)(len:∀i H Q E,sp i H Q E->i.length=c.length:=by intro _ _ _ _ h;cases h;subst_vars;rfl):aQ P w K mg base dB (k+1) a.x a.d c sp:=D.f.ok S len e
theorem Df.okE(D:Df K mg n st a c)(S:av N c (ai st))(e:∀(g:Value)(A:Around)(outer:List Env)(s:Shared)(H:Hp)(i:List V)(Q:VK)(E:XK),eQ k (A.deeper (envOfC n (ai st) s.heap.objs.size a.x g))->sp i H Q E->∃t,uA (qf (qy P w) P w K mg base N n (ai st) a.x g A outer s H E) (gx st) t/\t {nx:=λ_ j=>Q .non j,rt:=Q} (iP N i) H)(len:∀i H Q E,sp i H Q E->i.length=c.length:=by intro _ _ _ _ h;cases h;subst_vars;rfl):aQ P w K mg base (qy P w) (k+1) a.x a.d c sp:=D.f.okE S len e
theorem Mf.okE(D:Mf K C n q st a c)(S:av N c (ai st))(e:∀(g:Value)(A:Around)(outer:List Env)(s:Shared)(H:Hp)(i:List V)(Q:VK)(E:XK),eQ k (A.deeper (envOfC q (ai st) s.heap.objs.size a.x g))->sp i H Q E->∃t,uA (qf (qy P w) P w K mg base N q (ai st) a.x g A outer s H E) (gx st) t/\t {nx:=λ_ j=>Q .non j,rt:=Q} (iP N i) H)(len:∀i H Q E,sp i H Q E->i.length=c.length:=by intro _ _ _ _ h;cases h;subst_vars;rfl):aQ P w K mg base (qy P w) (k+1) a.x a.d c sp:=D.f.okE S len e
end
end L2
namespace L2
open PySem PySem.Spec PyProof.Rows PySem.W
section
variable{X:Cx}
theorem xo:∀{e d:N7},PyData.eqvAll (e.map PyData.str) (d.map PyData.str)=true->e=d|[],[],_=>rfl|[],_::_,h=>by cases h|_::_,[],h=>by cases h|x::r,y::q,h=>by rw[ku,ku,PyData.eqvAll,k4]at h;rw[xo h.2,eq_of_beq (show(x==y)=true from h.1)]
end
end L2
namespace L2
open PySem PySem.W PyProof.Rows
section
variable{M:Model}{A:Around}{E:N2}
def BX{C D N W:Addr}{nm q u X:Str}{bs v p c:N5}{hd Z sub ab w x y i z j}{dd B:Option Addr}{k0 k1 k2 k3 k5 F G H I J:Option Value}{id L:String}{s:Shared}{e tup:Addr}{P:Obj}{Q:Bool->Shared->Prop}(r:s.heap.get? C=some (excClassObj nm q C N bs p hd Z sub ab w dd k0 k1 k2 k3 k5 id))(l:s.heap.get? D=some (excClassObj u X D W v c x y i z j B F G H I J L))(T:s.heap.get? e=some P)(a:P.cls=.ref C\/P.cls=.ref D)(ht:IsTup s.heap tup #[.ref C,.ref D])(hb:p.contains (.type "BaseException")=true)(R:c.contains (.type "BaseException")=true)(S:Q true s):wpAny M A (excMatches (.ref e) (.ref tup)) Q E s:=by
 obtain⟨o,U,hc,n,K⟩:=ht;obtain⟨h,g,d,t,os⟩:=s;have b:(Value.ref C::p).contains (.type "BaseException")=true:=by rw[MP,hb,Bool.or_true]
 have k:(Value.ref D::c).contains (.type "BaseException")=true:=by rw[MP,R,Bool.or_true]
 unfold excMatches;refine a_ (Mv ⟨o,U,hc⟩ isSubtype_tuple_tuple ?_);dsimp only;rw[gn rfl];refine a_ (qc U K ?_);dsimp only[Option.getD_some,Option.getD];have O:(Value.ref C::p).contains (.ref C)=true:=by rw[MP,sm,Bool.true_or]
 have m:(Value.ref D::c).contains (.ref D)=true:=by rw[MP,sm,Bool.true_or]
 have f:=tc_notTuple;rcases a with a|a
 ·repeat(first|(with_reducible refine yn T ?_;rw[a])|with_reducible refine yn r ?_|with_reducible refine yn l ?_|(with_reducible refine C2 r ?_;first|rw[b]|rw[O])|(with_reducible refine C2 l ?_;rw[k])|wp_step)
  exact S
 ·repeat(first|(with_reducible refine yn T ?_;rw[a])|with_reducible refine yn r ?_|with_reducible refine yn l ?_|(with_reducible refine C2 r ?_;rw[b])|(with_reducible refine C2 l ?_;first|rw[k]|rw[m]|skip)|wp_step)
  cases V:(Value.ref D::c).contains (Value.ref C)with
 |true=>
   rw[gn rfl]
   repeat wp_step
   exact S|false=>
   rw[ge hA]
   repeat(first|(with_reducible refine C2 l ?_;rw[m])|wp_step)
   exact S
end
def Kq(c:XK->TS)(d e:Addr)(f:TS):TS:=λD a H=>c (λb _ g=>(b=.ref d\/b=.ref e)/\f D a g) D a H
def Gr{X:Cx}{st S:Stmt}{a:List Stmt}{W:XK->TS}{Z:TS}{r t:Addr}{x1 d:Str}{f g i v:Pos}{k j}(x:X.stack=X.env::X.outer)(hf:X.env.frame=some X.env.locals)(y:va X.K r)(A:Gl X x1)(B:X.mg x1=some (.ref r))(C:va X.K t)(G:Gl X d)(J:X.mg d=some (.ref t))(hb:∀(E:XK)(c:N3)(M:St)(Xe:N2),i5 (qy X.prog X.w) (X.wish Xe) E c M->Hw (X.wish Xe) c M st (W E))(hh:∀p,uA (X.inExc p) (S::a) Z)(l:(x1==("__debug__":Str))=false:=by decide)(m:(d==("__debug__":Str))=false:=by decide):PS X (.Try [st] [.ExceptHandler (some (.Tuple [.Name x1 f,.Name d g] k j)) none (S::a) i] [] [] v) (Kq W r t Z):=by intro c s M H D I h;refine xt x hf hb I h λp C' H' s5 hr L=>?_;obtain⟨O,P⟩:=hr;obtain⟨bm,N,nm,q,bs,hd,sn,sub,ab,aa,dd,k0,k1,k2,k3,k5,mN,Q,hN,ad,T⟩:=y.at I.mod.kin;obtain⟨al,N',an,q',ap,as,ax,U,ay,V,a0,a2,a3,a5,a6,a7,a8,n,ba,Y,T'⟩:=C.at I.mod.kin;refine wpAny_handleBy_cons (codeAny_handlers_test ?_) (by intro z;cases z);refine wpAny_Tuple_spliced ?_;show wpAny _ _ (spliced ((false,eval (.Name x1 f) X.env)::(false,eval (.Name d g) X.env)::[])) _ _ _;refine oa (jx (L.inv.inExc p) A B ?_ l);refine oa (jx (L.inv.inExc p) G J ?_ m);refine rV ⟨by show 2<=sizeLine;rw[g8];decide,?_⟩;obtain⟨ob,R,o⟩:=L.obj;refine BX (c_ _ (L.inv.bk _ _ Q)) (c_ _ (L.inv.bk _ _ n)) (c_ _ R) (by rw[o];exact O) ⟨_,fy _ rfl,rfl,_,rfl⟩ (T.hasType PySem.F.excBase_ValueError.hasBase) (T'.hasType PySem.F.excBase_ValueError.hasBase) (codeAny_handlers_suite ?_);exact(L.keep λb u e=>c_ _ e).run hh P λ_ _ z=>z
end L2
set_option genSizeOf false
namespace My
open PySem L2
seal L2.uA L2.PS L2.PE L2.PT L2.PA L2.PI L2.PG L2.PW L2.J0 L2.PO
def fK(i:Nat):Stmt:=PySem.Challenge.pw_layersplit_k32_points_in_two_arms.main.body.getD i (.Pass ⟨0,0,0,0⟩)
abbrev nP(c i:Nat):Stmt:=(Hi (fK c)).getD i (.Pass ⟨0,0,0,0⟩)
abbrev gE:Stmt:=fK 2
abbrev sY:Stmt:=fK 22
abbrev kG:Stmt:=fK 23
abbrev vm:Stmt:=fK 24
abbrev tf:Stmt:=fK 25
abbrev nu:Stmt:=fK 30
abbrev sV:Stmt:=fK 31
abbrev qD:Stmt:=fK 37
abbrev vp:Stmt:=fK 38
abbrev jh:Stmt:=fK 39
abbrev tm:Stmt:=fK 40
abbrev oz:Stmt:=fK 41
abbrev nr:Stmt:=fK 42
abbrev vo:Stmt:=fK 43
abbrev rO:Stmt:=fK 44
abbrev tj:Stmt:=fK 50
abbrev vn:Stmt:=fK 51
abbrev sZ:Stmt:=fK 52
abbrev qC:Stmt:=fK 53
abbrev kH:Stmt:=fK 54
abbrev jG:Stmt:=fK 55
abbrev ny:Stmt:=fK 56
abbrev mL:Stmt:=fK 57
abbrev on:Stmt:=fK 58
abbrev mM:Stmt:=fK 59
abbrev mJ:Stmt:=fK 60
abbrev oo:Stmt:=fK 61
abbrev qE:Stmt:=fK 62
abbrev jX:Stmt:=fK 63
abbrev mK:Stmt:=fK 64
abbrev mI:Stmt:=fK 65
abbrev jF:Stmt:=fK 66
abbrev oy:Stmt:=fK 67
abbrev mH:Stmt:=fK 68
abbrev mO:Stmt:=fK 69
abbrev lG:Stmt:=fK 70
abbrev kY:Stmt:=fK 71
abbrev ou:Stmt:=fK 72
abbrev mG:Stmt:=fK 73
abbrev oq:Stmt:=fK 74
abbrev ox:Stmt:=fK 75
abbrev sX:Stmt:=fK 77
abbrev AC:Stmt:=fK 78
abbrev sW:Stmt:=fK 80
abbrev lI:Stmt:=nP 82 0
abbrev jY:Stmt:=nP 82 1
abbrev jj:Stmt:=nP 82 2
abbrev kJ:Stmt:=nP 82 3
abbrev kI:Stmt:=nP 82 4
abbrev jk:Stmt:=nP 82 5
abbrev oA:Stmt:=nP 82 6
abbrev lJ:Stmt:=nP 85 0
abbrev lH:Stmt:=nP 86 0
abbrev lM:Stmt:=nP 87 0
abbrev tE:Stmt:=nP 87 1
abbrev oE:Stmt:=nP 87 2
abbrev j6:Stmt:=nP 87 3
abbrev j4:Stmt:=nP 87 4
abbrev fc:Stmt:=nP 87 5
abbrev k7:Stmt:=nP 87 6
abbrev j5:Stmt:=nP 87 7
abbrev j7:Stmt:=nP 87 8
abbrev lL:Stmt:=nP 87 9
abbrev j3:Stmt:=nP 87 10
abbrev kZ:Stmt:=nP 87 11
abbrev fA:Stmt:=nP 87 12
abbrev gF:Stmt:=nP 87 13
abbrev jZ:Stmt:=nP 87 14
abbrev mR:Stmt:=nP 87 16
abbrev jl:Stmt:=nP 87 17
abbrev lK:Stmt:=nP 87 18
abbrev iU:Stmt:=nP 87 24
abbrev j0:Stmt:=nP 87 26
abbrev mQ:Stmt:=nP 87 28
abbrev tD:Stmt:=fK 89
abbrev xQ:Stmt:=fK 90
abbrev AD:Stmt:=fK 91
abbrev xR:Stmt:=fK 92
abbrev AE:Stmt:=fK 93
abbrev tz:Stmt:=fK 94
abbrev AG:Stmt:=fK 95
abbrev oC:Stmt:=fK 96
abbrev kK:Stmt:=fK 97
abbrev oB:Stmt:=fK 98
abbrev AH:Stmt:=fK 99
abbrev xP:Stmt:=fK 100
abbrev pJ:Stmt:=fK 101
abbrev ww:Stmt:=fK 102
abbrev xO:Stmt:=fK 103
abbrev tw:Stmt:=fK 104
abbrev tu:Stmt:=fK 105
abbrev mP:Stmt:=fK 106
abbrev HD:Stmt:=fK 107
set_option genInjectivity false in
set_option genSizeOf false in
structure ic where(bH gu fL dZ ko kn j9 ff mq iN cB bY jN mn dU eS mm km iK gP f8 kA fX fN eU fW gK gL bR bv fV fT gN fU fY fg eK gM fS eT eV ki vP ka ee cf bg d9 d8 cO fO eg d7 eu i8 fP c8 c7 bJ dF ck c9 et c6 cH cn cZ cj eZ cQ cU eh bI cL i7 dP px qv eP qu v0 gT gS qp wa qt mB uv nN i6 me gb law:AF)(bS eY fH cp uo Bc Fw Fu HX mz Fx Fv Ba zf Bb uy nM fj uw:Addr)pm:Params
structure Txt(K:N1)(mg:N4)(a:ic):Prop where
 GR:mg "Table"=some (.ref a.bS)GT:mg "Layer"=some (.ref a.eY)GQ:mg "Trial"=some (.ref a.fH)GU:mg "House"=some (.ref a.cp)GS:mg "SplitError"=some (.ref a.uo)Kb:mg "NoHouse"=some (.ref a.Bc)K9:mg "NoDeed"=some (.ref a.Fw)K7:mg "NoWord"=some (.ref a.Fu)LJ:mg "Taken"=some (.ref a.HX)vD:mg "Unknown"=some (.ref a.mz)La:mg "NoArms"=some (.ref a.Fx)K8:mg "NoRule"=some (.ref a.Fv)J9:mg "NoShuts"=some (.ref a.Ba)Jr:mg "NoNumber"=some (.ref a.zf)Ka:mg "NoMarks"=some (.ref a.Bb)yy:mg "Closed"=some (.ref a.uy)yx:mg "NoRoom"=some (.ref a.nM)B0:mg "LENGTHS"=some (.ref a.fj)Em:mg "HELD"=some (.ref a.uw)bH:Df K mg "points_in_both" gE a.bH ["house","trial","arm","other","there"]gu:Df K mg "is_whole" sY a.gu ["thing"]fL:Df K mg "is_text_of" kG a.fL ["thing","signs","longest"]dZ:Df K mg "is_word" vm a.dZ ["thing"]ko:Df K mg "is_guest" tf a.ko ["thing"]kn:Df K mg "is_prime" nu a.kn ["thing"]j9:Df K mg "point_of" sV a.j9 ["p","salt","guest"]ff:Df K mg "is_number" qD a.ff ["thing"]mq:Df K mg "is_mark" vp a.mq ["thing"]iN:Df K mg "are_marks" jh a.iN ["thing"]cB:Df K mg "has_form" tm a.cB ["thing","depth"]bY:Df K mg "all_within" oz a.bY ["rule"]jN:Df K mg "words_of" nr a.jN ["rule"]mn:Df K mg "is_rule" vo a.mn ["thing"]dU:Df K mg "holds" rO a.dU ["rule","marks"]eS:Df K mg "is_count" tj a.eS ["thing"]mm:Df K mg "is_salt" vn a.mm ["thing"]km:Df K mg "is_total" sZ a.km ["thing"]iK:Df K mg "is_weight" qC a.iK ["thing"]gP:Df K mg "are_counts" kH a.gP ["thing","many"]f8:Df K mg "are_weights" jG a.f8 ["thing","many"]kA:Df K mg "are_arms" ny a.kA ["thing"]fX:Df K mg "check_house" mL a.fX ["prime","salt"]fN:Df K mg "check_word" on a.fN ["thing"]eU:Df K mg "check_guest" mM a.eU ["thing"]fW:Df K mg "check_marks" mJ a.fW ["thing"]gK:Df K mg "check_rule" oo a.gK ["thing"]gL:Df K mg "check_new" qE a.gL ["thing","names"]bR:Df K mg "check_standing" jX a.bR ["thing","names"]bv:Df K mg "check_known" mK a.bv ["thing","names"]fV:Df K mg "check_place" mI a.fV ["thing","prime"]fT:Df K mg "check_slope" jF a.fT ["thing","prime","layers"]gN:Df K mg "check_arms" oy a.gN ["thing"]fU:Df K mg "check_shuts" mH a.fU ["thing","trials"]fY:Df K mg "check_count" mO a.fY ["thing"]fg:Df K mg "check_shares" lG a.fg ["thing","many"]eK:Df K mg "check_dealing" kY a.eK ["total","weights","many"]gM:Df K mg "check_form" ou a.gM ["deed"]fS:Df K mg "check_trial" mG a.fS ["deed","layers","trials"]eT:Df K mg "check_open" oq a.eT ["deed","trials"]eV:Df K mg "check_deed" ox a.eV ["deed","prime","layers","trials"]ki:Df K mg "most_due" sX a.ki ["weights","given"]vP:Df K mg "dealt" AC a.vP ["total","weights"]ka:Df K mg "place_of" sW a.ka ["p","slope","point"]ee:Mf K a.bS "__init__" "Table.__init__" lI a.ee ["self","many"]cf:Mf K a.bS "owner_of" "Table.owner_of" jY a.cf ["self","place"]bg:Mf K a.bS "places_of" "Table.places_of" jj a.bg ["self","owner"]d9:Mf K a.bS "free" "Table.free" kJ a.d9 ["self"]d8:Mf K a.bS "told" "Table.told" kI a.d8 ["self","wanted"]cO:Mf K a.bS "give_back" "Table.give_back" jk a.cO ["self","owner","number"]fO:Mf K a.bS "take" "Table.take" oA a.fO ["self","owner","number"]eg:Mf K a.eY "__init__" "Layer.__init__" lJ a.eg ["self","slope","many"]d7:Mf K a.fH "__init__" "Trial.__init__" lH a.d7 ["self","home","arms","rule","shuts"]eu:Mf K a.cp "__init__" "House.__init__" lM a.eu ["self","prime","salt"]i8:Mf K a.cp "do" "House.do" tE a.i8 ["self","deed"]fP:Mf K a.cp "done" "House.done" oE a.fP ["self","deed"]c8:Mf K a.cp "do_layer" "House.do_layer" j6 a.c8 ["self","name","slope"]c7:Mf K a.cp "do_trial" "House.do_trial" j4 a.c7 ["self","name","trial"]bJ:Mf K a.cp "do_share" "House.do_share" fc a.bJ ["self","name","numbers"]dF:Mf K a.cp "do_hold" "House.do_hold" k7 a.dF ["self","name","number"]ck:Mf K a.cp "do_pause" "House.do_pause" j5 a.ck ["self","name","paused"]c9:Mf K a.cp "do_close" "House.do_close" j7 a.c9 ["self","name"]et:Mf K a.cp "do_bar" "House.do_bar" lL a.et ["self","guest","name"]c6:Mf K a.cp "do_visit" "House.do_visit" j3 a.c6 ["self","guest","marks"]cH:Mf K a.cp "put_out" "House.put_out" kZ a.cH ["self","layer","guests"]cn:Mf K a.cp "after_visit" "House.after_visit" fA a.cn ["self","guest","marks"]cZ:Mf K a.cp "seat_for" "House.seat_for" gF a.cZ ["self","layer","guest","marks","been"]cj:Mf K a.cp "place_in" "House.place_in" jZ a.cj ["self","layer","guest"]eZ:Mf K a.cp "owner" "House.owner" mR a.eZ ["self","layer","place"]cQ:Mf K a.cp "places_in" "House.places_in" jl a.cQ ["self","trial","arm"]cU:Mf K a.cp "places" "House.places" lK a.cU ["self","trial","arm"]eh:Mf K a.cp "layers" "House.layers" iU a.eh ["self"]bI:Mf K a.cp "layer_of" "House.layer_of" j0 a.bI ["self","trial"]cL:Mf K a.cp "prime" "House.prime" mQ a.cL ["self"]i7:Df K mg "_law_cell_at" tD a.i7 ["_law_script","_law_k"]dP:Df K mg "_law_mixed" xQ a.dP ["_law_script","_law_k","_law_salt"]px:Df K mg "_law_word" AD a.px ["_law_k","_law_number"]qv:Df K mg "_law_guest" xR a.qv ["_law_k","_law_number"]eP:Df K mg "_law_rule" AE a.eP ["_law_number","_law_high"]qu:Df K mg "_law_marks" tz a.qu ["_law_number"]v0:Df K mg "_law_plan" AG a.v0 ["_law_script"]gT:Df K mg "_law_new_layer" oC a.gT ["_law_script","_law_plan_here"]gS:Df K mg "_law_new_trial" kK a.gS ["_law_script","_law_plan_here","_law_number"]qp:Df K mg "_law_share" oB a.qp ["_law_script","_law_plan_here","_law_k","_law_number"]wa:Df K mg "_law_deed" AH a.wa ["_law_script","_law_plan_here","_law_k"]qt:Df K mg "_law_place" xP a.qt ["_law_p","_law_slope","_law_x","_law_y"]mB:Df K mg "_law_owners" pJ a.mB ["_law_house","_law_name"]uv:Df K mg "_law_arms" ww a.uv ["_law_script","_law_plan_here"]nN:Df K mg "_law_seats" xO a.nN ["_law_house","_law_slopes","_law_arm","_law_p"]i6:Df K mg "_law_refused" tw a.i6 ["_law_house","_law_one","_law_other"]me:Df K mg "_law_right" tu a.me ["_law_house","_law_one","_law_other"]gb:Df K mg "_law_first_ones" mP a.gb ["_law_house","_law_arms_here"]law:Df K mg "law" HD a.law ["_law_script"]Ct:∃u,mg "LETTERS"=some u/\aY (.str "abcdefghijklmnopqrstuvwxyz") u
 m9:∃u,mg "GUEST_SIGNS"=some u/\aY (.str "abcdefghijklmnopqrstuvwxyz0123456789") u
 ue:∃u,mg "LONGEST_WORD"=some u/\aY (.int 12) u
 rE:∃u,mg "LONGEST_GUEST"=some u/\aY (.int 24) u
 u4:∃u,mg "LEAST_PRIME"=some u/\aY (.int 2) u
 qk:∃u,mg "GREATEST_PRIME"=some u/\aY (.int 997) u
 Hl:∃u,mg "MIXER"=some u/\aY (.int 1009) u
 w4:∃u,mg "MOST_MARKS"=some u/\aY (.int 8) u
 uf:∃u,mg "DEEPEST_RULE"=some u/\aY (.int 6) u
 wZ:∃u,mg "MOST_RULES"=some u/\aY (.int 30) u
 wW:∃u,mg "MOST_WORDS"=some u/\aY (.int 3) u
 y3:∃u,mg "MOST_ARMS"=some u/\aY (.int 4) u
 wY:∃u,mg "MOST_SHUTS"=some u/\aY (.int 8) u
 wX:∃u,mg "MOST_TOTAL"=some u/\aY (.int 1000) u
 bp:xj K a.bS
 Ea:L2.Mk K a.bS a.ee.x
 mY:bZ K a.bS "many"eC:bZ K a.bS "owners"gr:bZ K a.bS "taken"bO:xj K a.eY
 Eb:L2.Mk K a.eY a.eg.x
 gt:bZ K a.eY "slope"dN:bZ K a.eY "table"cq:bZ K a.eY "inside"bf:xj K a.fH
 D9:L2.Mk K a.fH a.d7.x
 fE:bZ K a.fH "home"fF:bZ K a.fH "arms"mW:bZ K a.fH "rule"lS:bZ K a.fH "shuts"ij:bZ K a.fH "paused"eB:bZ K a.fH "closed"ik:bZ K a.fH "barred"aB:xj K a.cp
 Ec:L2.Mk K a.cp a.eu.x
 bW:bZ K a.cp "own_prime"jw:bZ K a.cp "own_salt"aP:bZ K a.cp "layer_named"aO:bZ K a.cp "trial_named"dY:bZ K a.cp "came_into"lT:bZ K a.cp "deeds"FA:va K a.uo
 JK:va K a.Bc
 Ke:va K a.Fw
 Kc:va K a.Fu
 Lp:va K a.HX
 t7:va K a.mz
 Kf:va K a.Fx
 Kd:va K a.Fv
 JI:va K a.Ba
 HQ:va K a.zf
 JJ:va K a.Bb
 vM:va K a.uy
 vL:va K a.nM
 zX:L2.Hx K a.pm a.fj
 pV:∃tk,PySem.W.nsIn K a.fj "layer"=some (some (.int 3 tk))pS:∃tk,PySem.W.nsIn K a.fj "trial"=some (some (.int 6 tk))pT:∃tk,PySem.W.nsIn K a.fj "share"=some (some (.int 3 tk))rB:∃tk,PySem.W.nsIn K a.fj "deal"=some (some (.int 4 tk))rq:∃tk,PySem.W.nsIn K a.fj "hold"=some (some (.int 3 tk))pU:∃tk,PySem.W.nsIn K a.fj "pause"=some (some (.int 2 tk))uX:∃tk,PySem.W.nsIn K a.fj "go"=some (some (.int 2 tk))pW:∃tk,PySem.W.nsIn K a.fj "close"=some (some (.int 2 tk))tX:∃tk,PySem.W.nsIn K a.fj "bar"=some (some (.int 3 tk))pR:∃tk,PySem.W.nsIn K a.fj "visit"=some (some (.int 3 tk))AU:L2.LM K a.uw [.str "",.str ""]vz:mg "all"=none
 D6:mg "any"=none
 D5:mg "bool"=none
 Jl:mg "dict"=none
 D4:mg "divmod"=none
 yr:mg "enumerate"=none
 HJ:mg "int"=none
 bE:mg "isinstance"=none
 bo:mg "len"=none
 D3:mg "list"=none
 K3:mg "max"=none
 D1:mg "min"=none
 dA:mg "range"=none
 zQ:mg "reversed"=none
 D0:mg "set"=none
 yq:mg "sorted"=none
 HI:mg "str"=none
 K2:mg "sum"=none
 eM:mg "tuple"=none
 K1:mg "zip"=none
def dh{N P:N7}{h:Scope}(a:h.kind=.function:=by rfl)(b:h.isCoroutine=false:=by rfl)(c:h.isGenerator=false:=by rfl)(d:N.Nodup:=by decide+kernel)(e:N.take P.length=P:=by rfl)(f:∀x∈P,h.names.lookup x=some .local\/h.names.lookup x=some .cell:=by decide+kernel)(g:∀y∈h.names,y.2≠.free:=by decide+kernel):av N P h:=⟨a,b,c,d,e,f,g⟩
abbrev gQ:List Str:=["house","trial","arm","other","there","here","theirs"]
def gh:av gQ ["house","trial","arm","other","there"] (ai gE):=dh
def xF:av ["thing"] ["thing"] (ai sY):=dh
abbrev kU:List Str:=["thing","signs","longest"]
def uE:av kU ["thing","signs","longest"] (ai kG):=dh
def zv:av ["thing"] ["thing"] (ai vm):=dh
def xI:av ["thing"] ["thing"] (ai tf):=dh
def xH:av ["thing"] ["thing"] (ai nu):=dh
def jd:av ["p","salt","guest","mixed","sign"] ["p","salt","guest"] (ai sV):=dh
def wo:av ["thing"] ["thing"] (ai qD):=dh
def zy:av ["thing"] ["thing"] (ai vp):=dh
def wu:av ["thing"] ["thing"] (ai jh):=dh
def lC:av ["thing","depth","kind"] ["thing","depth"] (ai tm):=dh
def gY:av ["rule","found","inner"] ["rule"] (ai oz):=dh
def xE:av ["rule"] ["rule"] (ai nr):=dh
def zx:av ["thing"] ["thing"] (ai vo):=dh
abbrev pq:List Str:=["rule","marks","kind"]
def sG:av pq ["rule","marks"] (ai rO):=dh
def xJ:av ["thing"] ["thing"] (ai tj):=dh
def zw:av ["thing"] ["thing"] (ai vn):=dh
def xG:av ["thing"] ["thing"] (ai sZ):=dh
def wm:av ["thing"] ["thing"] (ai qC):=dh
abbrev iF:List Str:=["thing","many"]
def uJ:av iF ["thing","many"] (ai kH):=dh
abbrev ng:List Str:=["thing","many"]
def sP:av ng ["thing","many"] (ai jG):=dh
def xL:av ["thing"] ["thing"] (ai ny):=dh
def sM:av ["prime","salt"] ["prime","salt"] (ai mL):=dh
def uF:av ["thing"] ["thing"] (ai on):=dh
def sN:av ["thing"] ["thing"] (ai mM):=dh
def sK:av ["thing"] ["thing"] (ai mJ):=dh
def uG:av ["thing"] ["thing"] (ai oo):=dh
def wq:av ["thing","names"] ["thing","names"] (ai qE):=dh
def n6:av ["thing","names"] ["thing","names"] (ai jX):=dh
def sL:av ["thing","names"] ["thing","names"] (ai mK):=dh
def sJ:av ["thing","prime"] ["thing","prime"] (ai mI):=dh
abbrev jL:List Str:=["thing","prime","layers"]
def sI:av jL ["thing","prime","layers"] (ai jF):=dh
def uI:av ["thing"] ["thing"] (ai oy):=dh
def iS:av ["thing","trials","k","name"] ["thing","trials"] (ai mH):=dh
def sO:av ["thing"] ["thing"] (ai mO):=dh
def qV:av ["thing","many"] ["thing","many"] (ai lG):=dh
def pH:av ["total","weights","many"] ["total","weights","many"] (ai kY):=dh
def uH:av ["deed"] ["deed"] (ai ou):=dh
def sH:av ["deed","layers","trials"] ["deed","layers","trials"] (ai mG):=dh
def jD:av ["deed","trials","trial","many"] ["deed","trials"] (ai oq):=dh
def mE:av ["deed","prime","layers","trials","kind"] ["deed","prime","layers","trials"] (ai ox):=dh
def je:av ["weights","given","best","k"] ["weights","given"] (ai sX):=dh
def nZ:av ["total","weights","given","turn","k"] ["total","weights"] (ai AC):=dh
def lz:av ["p","slope","point","x","y"] ["p","slope","point"] (ai sW):=dh
def qX:av ["self","many"] ["self","many"] (ai lI):=dh
def n8:av ["self","place"] ["self","place"] (ai jY):=dh
def nj:av ["self","owner"] ["self","owner"] (ai jj):=dh
def uK:av ["self"] ["self"] (ai kJ):=dh
abbrev iG:List Str:=["self","wanted","more","back","owner","number"]
def dC:av iG ["self","wanted"] (ai kI):=dh
def dW:av ["self","owner","number","places","back","place"] ["self","owner","number"] (ai jk):=dh
def gZ:av ["self","owner","number","places","more","place"] ["self","owner","number"] (ai oA):=dh
def qY:av ["self","slope","many"] ["self","slope","many"] (ai lJ):=dh
def qW:av ["self","home","arms","rule","shuts"] ["self","home","arms","rule","shuts"] (ai lH):=dh
def q9:av ["self","prime","salt"] ["self","prime","salt"] (ai lM):=dh
def qB:av ["self","deed","answer"] ["self","deed"] (ai tE):=dh
def mF:av ["self","deed","kind"] ["self","deed"] (ai oE):=dh
def om:av ["self","name","slope"] ["self","name","slope"] (ai j6):=dh
def oj:av ["self","name","trial"] ["self","name","trial"] (ai j4):=dh
abbrev cY:List Str:=["self","name","numbers","trial","layer","back","guests"]
def dy:av cY ["self","name","numbers"] (ai fc):=dh
def pI:av ["self","name","number"] ["self","name","number"] (ai k7):=dh
def jf:av ["self","name","paused","trial"] ["self","name","paused"] (ai j5):=dh
def jg:av ["self","name","trial"] ["self","name"] (ai j7):=dh
def ie:av ["self","guest","name","trial","layer"] ["self","guest","name"] (ai lL):=dh
def cM:av ["self","guest","marks","answer","name","trial","arm","layer"] ["self","guest","marks"] (ai j3):=dh
def fb:av ["self","layer","guests","out","guest","seat"] ["self","layer","guests"] (ai kZ):=dh
abbrev fD:List Str:=["self","guest","marks","been","answer","name","layer","seat"]
def bG:av fD ["self","guest","marks"] (ai fA):=dh
abbrev gR:List Str:=["self","layer","guest","marks","been","owner","trial"]
def gi:av gR ["self","layer","guest","marks","been"] (ai gF):=dh
def og:av ["self","layer","guest"] ["self","layer","guest"] (ai jZ):=dh
def sU:av ["self","layer","place"] ["self","layer","place"] (ai mR):=dh
def nq:av ["self","trial","arm"] ["self","trial","arm"] (ai jl):=dh
def qZ:av ["self","trial","arm"] ["self","trial","arm"] (ai lK):=dh
def q8:av ["self"] ["self"] (ai iU):=dh
def oh:av ["self","trial"] ["self","trial"] (ai j0):=dh
def sR:av ["self"] ["self"] (ai mQ):=dh
def xN:av ["_law_script","_law_k"] ["_law_script","_law_k"] (ai tD):=dh
def jT:av ["_law_script","_law_k","_law_salt","_law_cell","_law_lap","_law_near"] ["_law_script","_law_k","_law_salt"] (ai xQ):=dh
def n9:av ["_law_k","_law_number","_law_some","_law_stem","_law_at"] ["_law_k","_law_number"] (ai AD):=dh
def jV:av ["_law_k","_law_number","_law_some","_law_stem","_law_at","_law_own"] ["_law_k","_law_number"] (ai xR):=dh
def lD:av ["_law_number","_law_high","_law_way","_law_some","_law_word_here"] ["_law_number","_law_high"] (ai AE):=dh
abbrev uu:List Str:=["_law_number","_law_marks_here","_law_k","_law_word_here"]
def jU:av uu ["_law_number"] (ai tz):=dh
def sQ:av ["_law_script","_law_number","_law_prime"] ["_law_script"] (ai AG):=dh
def jE:av ["_law_script","_law_plan_here","_law_k","_law_name"] ["_law_script","_law_plan_here"] (ai oC):=dh
abbrev kW:List Str:=["_law_script","_law_plan_here","_law_number","_law_k","_law_name","_law_layer","_law_arms_here","_law_shuts","_law_more","_law_j"]
def cW:av kW ["_law_script","_law_plan_here","_law_number"] (ai kK):=dh
abbrev l9:List Str:=["_law_script","_law_plan_here","_law_k","_law_number","_law_trial","_law_most","_law_weights"]
def mj:av l9 ["_law_script","_law_plan_here","_law_k","_law_number"] (ai oB):=dh
def jW:av ["_law_script","_law_plan_here","_law_k","_law_number","_law_some","_law_guest_here","_law_early","_law_trial"] ["_law_script","_law_plan_here","_law_k"] (ai AH):=dh
def BH:av ["_law_p","_law_slope","_law_x","_law_y"] ["_law_p","_law_slope","_law_x","_law_y"] (ai xP):=dh
abbrev qo:List Str:=["_law_house","_law_name"]
def zz:av qo ["_law_house","_law_name"] (ai pJ):=dh
abbrev xh:List Str:=["_law_script","_law_plan_here","_law_arms_here","_law_name","_law_many"]
def lF:av xh ["_law_script","_law_plan_here"] (ai ww):=dh
def iH:av ["_law_house","_law_slopes","_law_arm","_law_p","_law_name","_law_owners_here","_law_seats_here","_law_x","_law_y"] ["_law_house","_law_slopes","_law_arm","_law_p"] (ai xO):=dh
def xM:av ["_law_house","_law_one","_law_other"] ["_law_house","_law_one","_law_other"] (ai tw):=dh
abbrev ur:List Str:=["_law_house","_law_one","_law_other","_law_slopes","_law_p","_law_seats_here","_law_others","_law_due","_law_found"]
def gD:av ur ["_law_house","_law_one","_law_other"] (ai tu):=dh
def lE:av ["_law_house","_law_arms_here","_law_at"] ["_law_house","_law_arms_here"] (ai mP):=dh
def iR:av ["_law_script","_law_plan_here","_law_house","_law_k","_law_refused_here","_law_arms_here","_law_one","_law_other","_law_odd"] ["_law_script"] (ai HD):=dh
variable{P:N6}{w:World}{K:N1}{mg:N4}{base:Heap}{a:ic}{H H':Hp}
inductive FC{A0 A1:Type}(p:A0->A1->Prop):Prop|mk(x0:A0)(x1:A1)(h:p x0 x1)
inductive LP{A0 A1 A2:Type}(p:A0->A1->A2->Prop):Prop|mk(x0:A0)(x1:A1)(x2:A2)(h:p x0 x1 x2)
inductive Ex4{A0 A1 A2 A3:Type}(p:A0->A1->A2->A3->Prop):Prop|mk(x0:A0)(x1:A1)(x2:A2)(x3:A3)(h:p x0 x1 x2 x3)
structure An5(p0 p1 p2 p3 p4:Prop):Prop where
 h0:p0
 h1:p1
 h2:p2
 h3:p3
 h4:p4
structure LC(p0 p1 p2 p3 p4 p5 p6 p7 p8 p9:Prop):Prop where
 h0:p0
 h1:p1
 h2:p2
 h3:p3
 h4:p4
 h5:p5
 h6:p6
 h7:p7
 h8:p8
 h9:p9
structure Mr(p0 p1 p2 p3 p4 p5 p6 p7 p8 p9 p10 p11:Prop):Prop where
 h0:p0
 h1:p1
 h2:p2
 h3:p3
 h4:p4
 h5:p5
 h6:p6
 h7:p7
 h8:p8
 h9:p9
 h10:p10
 h11:p11
structure Mq(p0 p1 p2 p3 p4 p5 p6 p7 p8 p9 p10 p11 p12:Prop):Prop where
 h0:p0
 h1:p1
 h2:p2
 h3:p3
 h4:p4
 h5:p5
 h6:p6
 h7:p7
 h8:p8
 h9:p9
 h10:p10
 h11:p11
 h12:p12
@[irreducible]def vR(ns:Ob)(k:Int):Int:=if ns.length=0 then 0 else ns.getD (k%(ns.length:Int)).toNat 0
def Lb(ns:Ob)(k:Int):Int:=k/(if(ns.length:Int)>1 then(ns.length:Int)else 1)
def DX(ns:Ob)(k m:Int):Int:=(Builtin.bitAnd (vR ns k) 2147483647+1009*k*k+7919*m*m+12)*48271%2147483647
@[irreducible]def cy(ns:Ob)(k m:Int):Int:=(vR ns k/2^(31*(m+128*Lb ns k)).toNat+DX ns k m*DX ns k m%2147483629)%2147483648
def GI(ns:Ob)(k m:Int):0<=cy ns k m/\cy ns k m<2147483648:=by unfold cy;exact aZ _ (by decide)
inductive IK(K:N1)(vs:List V)(H:Hp)(Q:VK)(_E:XK):Prop|mk(a:Addr)(ns:Ob)(k:Int)(_:vs=[.ref a,.int k])(_:aX K H a (ns.map V.int))(_:ns.length<=63)(_:Q (.int (vR ns k)) H)
inductive F1(K:N1)(vs:List V)(H:Hp)(Q:VK)(_E:XK):Prop|mk(a:Addr)(ns:Ob)(k m:Int)(_:vs=[.ref a,.int k,.int m])(_:aX K H a (ns.map V.int))(_:ns.length<=63)(_:(0<=k/\k<=1000000))(_:(0<=m/\m<=1000000))(_:Q (.int (cy ns k m)) H)
inductive C6(K:N1)(vs:List V)(H:Hp)(Q:VK)(_E:XK):Prop|mk(a:Addr)(ns:Ob)(_:vs=[.ref a])(_:aX K H a (ns.map V.int))(_:ns.length<=63)(_:∀H',Q (.bl true) H')
section
variable{P:N6}{w:World}{K:N1}{mg:N4}{base:Heap}{a:ic}
def qJ(T:Txt K mg a):aQ P w K mg base dB 1 a.i7.x a.i7.d ["_law_script","_law_k"] (IK K):=by
 refine T.i7.ok xN λe A outer s H f Q E g h=>?_
 ·obtain⟨p,ns,k,rfl,b,hl,q⟩:=h;refine⟨_,(af (aL (aD aT (au (aG K rfl) (by rfl) T.bo L2.aK (ac (Y 0) O)) ae (aF _)) (ah (az ae)) aC) (ah (az (gB K (Y 0) (aA aS (Y 1) (au (aG K rfl) (by rfl) T.bo L2.aK (ac (Y 0) O))))))),?_⟩
  refine U rfl ⟨_,ns.length,rfl,.inl ⟨_,b,by simp⟩,rfl,U rfl ?_⟩;unfold vR at q;refine kj (λh0=>?_) (λh0=>?_)
  ·rw[gn (by exact Int.ofNat_inj.mp h0)]at q;exact q
  have c:(0:Int)<(ns.length:Int):=by lia
  have hm:=aZ k c;rw[ge (by lia)]at q;exact U rfl (U rfl (U rfl ⟨_,ns.length,rfl,.inl ⟨_,b,by simp⟩,_,U rfl ⟨rfl,c,rX b (my hm.1 hm.2) q⟩⟩))
def cD(T:Txt K mg a):aQ P w K mg base dB 2 a.dP.x a.dP.d ["_law_script","_law_k","_law_salt"] (F1 K):=by
 refine T.dP.ok jT λj A outer s H u Q E l h=>?_
 ·obtain⟨p,ns,k,m,rfl,e,hl,⟨o,v⟩,⟨y,z⟩,q⟩:=h;refine⟨_,(af (bj 3 jT.nd (pc T.i7 (qJ T) l (ac (Y 0) (ac (Y 1) O)))) (af (bj 4 jT.nd (aA bL (Y 1) (au (Co rfl) (by rfl) T.K3 L2.Fl (ac ae (ac (au (aG K rfl) (by rfl) T.bo L2.aK (ac (Y 0) O)) O))))) (af (bj 5 jT.nd (aA bQ (aA bQ (aA bQ (aA DR (Y 3) ae) (aA eR (aA eR ae (Y 1)) (Y 1))) (aA eR (aA eR ae (Y 2)) (Y 2))) ae)) (af (bj 5 jT.nd (aA aS (aA eR (Y 5) ae) ae)) (ah (az (aA DR (aA bQ (aA Jd (Y 3) (aA eR ae (aA bQ (Y 2) (aA eR ae (Y 4))))) (aA aS (aA eR (Y 5) (Y 5)) ae)) ae))))))),?_⟩
  unfold cy DX Lb at q;refine U rfl (U rfl ⟨p,ns,k,rfl,e,hl,?_⟩);generalize vR ns k=c at q⊢;have hn:∃n:Int,n=(if(ns.length:Int)>1 then(ns.length:Int)else 1)/\0<n/\n<1073741824:=(U rfl ⟨by split<;>lia,by split<;>lia⟩);obtain⟨n,f,g,n1⟩:=hn;rw[<-f]at q;refine U rfl (U rfl ⟨_,ns.length,rfl,.inl ⟨_,e,by simp⟩,_,U rfl ⟨_,n,rfl,by rw[f],⟨g,n1⟩,?_⟩⟩);have r:0<=k/n:=Int.ediv_nonneg o (by exact NL g)
  try dsimp only
  generalize k/n=t at r q⊢;refine U rfl (r2 (U rfl (r2 ⟨.inl ⟨by decide,by decide⟩,U rfl (r2 ⟨.inr ⟨by lia,by lia⟩,_,U rfl ⟨rfl,U rfl (r2 ⟨.inl ⟨by decide,by decide⟩,U rfl (r2 ⟨.inr ⟨by lia,by lia⟩,_,U rfl ⟨rfl,r2 ?_⟩⟩)⟩)⟩⟩)⟩)));refine U rfl (r2 ⟨.inr ⟨by decide,by decide⟩,_,U rfl ⟨rfl,(by show(0:Int)<_;first|decide|lia),?_⟩⟩);have b:=aZ ((Builtin.bitAnd c 2147483647+1009*k*k+7919*m*m+12)*48271) (show(0:Int)<2147483647 by decide)
  try dsimp only
  generalize(Builtin.bitAnd c 2147483647+1009*k*k+7919*m*m+12)*48271%2147483647=i at b q⊢;refine U rfl (U rfl (U rfl (r2 ⟨.inl ⟨by decide,by decide⟩,_,U rfl ⟨rfl,r2 ⟨.inl ⟨by decide,by decide⟩,_,U rfl ⟨rfl,(by show(0:Int)<=_;lia),U rfl (U rfl (r2 ⟨.inl ⟨by lia,by lia⟩,_,U rfl ⟨rfl,(by show(0:Int)<_;first|decide|lia),_,U rfl ⟨rfl,r2 ?_⟩⟩⟩))⟩⟩⟩⟩)))
  try dsimp only
  rw[Jo];exact q
def B8(T:Txt K mg a)(s:Shared)(u:Value):BindsTo s a.law.d ⟨[u],[]⟩ [("_law_script",u)]:=by obtain⟨oc,i,kV,b,pm,j,c,ct,g,e,k,h⟩:=T.law.f.ex;rw[e];exact .of_eq rfl
def B7{p:Addr}{ns:Ob}(hl:ns.length<=63)(c:aX K H p (ns.map V.int)):C6 K [.ref p] H (λv _=>v=.bl true) λ_ _ _=>False:=⟨p,ns,rfl,c,hl,λ_=>rfl⟩
end
section
variable{g j:Type}{F G:g->j->Prop}{a c:List g}{b d:List j}
def Paired.mapM(h:Paired F a b)(f:∀x∈a,∀y,F x y->G x y):Paired G a b:=by induction h with|nil=>exact .nil|cons h _ e=>exact .cons (f _ hF _ h) (e λx m=>f x (g_ _ m))
def Paired.ex(h:Paired F a b):∀x∈a,∃y,F x y:=by induction h with|nil=>exactλx e=>(nomatch e)|cons h _ f=>
  intro x e;rcases ot.mp e with rfl|m
  ·exact⟨_,h⟩
  ·exact f x m
def Paired.at_(h:Paired F a b):∀(i:Nat)(x:g),a[i]?=some x->∃y,b[i]?=some y/\F x y:=by induction h with|nil=>exactλi x e=>(nomatch e)|cons h _ f=>intro i x e;cases i with|zero=>obtain rfl:=ir e;exact⟨_,rfl,h⟩|succ i=>exact f i x e
def wy(h:Paired F a b):∀(i:Nat)(y:j),b[i]?=some y->∃x,a[i]?=some x/\F x y:=by induction h with|nil=>exactλi x e=>(nomatch e)|cons h _ f=>intro i x e;cases i with|zero=>obtain rfl:=ir e;exact⟨_,rfl,h⟩|succ i=>exact f i x e
def zE(h:Paired F a b)(k:Paired F c d):Paired F (a++c) (b++d):=by induction h with|nil=>exact k|cons h _ e=>exact .cons h e
end
inductive Ru where|any|has(w:Str)|least(w:Str)(n:Int)|not(q:Ru)|both(q r:Ru)|either(q r:Ru)
def Ru.hgt:Ru->Nat|.any=>1|.has _=>1|.least _ _=>1|.not q=>q.hgt+1|.both q r=>max q.hgt r.hgt+1|.either q r=>max q.hgt r.hgt+1
def Ru.hgt_pos:∀r:Ru,0<r.hgt|.any=>Nat.one_pos|.has _=>Nat.one_pos|.least _ _=>Nat.one_pos|.not _=>n0 _|.both _ _=>n0 _|.either _ _=>n0 _
def Ll(w:Str)(m:Str×Int):Bool:=decide (V.str m.1=V.str w)
def gI(w:Str)(n:Int)(m:Str×Int):Bool:=if decide (V.str m.1=V.str w)=true then decide (n<=m.2)else false
def Ru.sat(c:List (Str×Int)):Ru->Bool|.any=>true|.has w=>(c.map (Ll w)).any id|.least w n=>(c.map (gI w n)).any id|.not q=>!q.sat c|.both q r=>if q.sat c=true then r.sat c else false|.either q r=>if q.sat c=true then true else r.sat c
inductive fi(K:N1)(H:Hp):Ru->V->Prop|any{a:Addr}:bd K H a [.str "any"]->fi K H .any (.ref a)|has{a:Addr}{w:Str}:bd K H a [.str "has",.str w]->fi K H (.has w) (.ref a)|least{a:Addr}{w:Str}{n:Int}:bd K H a [.str "least",.str w,.int n]->fi K H (.least w n) (.ref a)|not{a:Addr}{q:Ru}{v:V}:bd K H a [.str "not",v]->fi K H q v->fi K H (.not q) (.ref a)|both{a:Addr}{q r:Ru}{v u:V}:bd K H a [.str "both",v,u]->fi K H q v->fi K H r u->fi K H (.both q r) (.ref a)|either{a:Addr}{q r:Ru}{v u:V}:bd K H a [.str "either",v,u]->fi K H q v->fi K H r u->fi K H (.either q r) (.ref a)
def JX(H H':Hp):Prop:=∀u b,H u=some (.tup b)->H' u=some (.tup b)
def JX.sq{a:Addr}{d:List V}(e:JX H H')(f:∀u o,(∃c,H u=some (.frz c o))->∃c,H' u=some (.frz c o))(h:bd K H a d):bd K H' a d:=by
 rcases h with h|h
 ·rcases h with h|h
  ·exact .inl (.inl (e _ _ h))
  ·exact .inl (.inr (f _ _ h))
 ·exact .inr h
structure Kp(H H':Hp):Prop where
 tp:JX H H'
 fz:∀u o,(∃o',H u=some (.frz o' o))->∃o',H' u=some (.frz o' o)
def Kp.trans(a:Kp H d)(b:Kp d e):Kp H e:=⟨λu c h=>b.tp u c (a.tp u c h),λu o h=>b.fz u o (a.fz u o h)⟩
def Kp.of(h:am H H'):Kp H H':=⟨λu c e=>h u _ e,λu o⟨b,e⟩=>⟨b,h u _ e⟩⟩
theorem Kp.lst{a:Addr}{o:HO}{c:List V}(hl:H a=some (.lst c)):Kp H (aJ H a o):=⟨λu d h=>by rw[ao (λe=>by rw[e,hl]at h;cases h)];exact h,λu o⟨b,h⟩=>⟨b,by rw[ao (λe=>by rw[e,hl]at h;cases h)];exact h⟩⟩
def Kp.new{a:Addr}{o:HO}(hn:H a=none):Kp H (aJ H a o):=.of (aj (am.refl H) hn)
def Kp.tq{a:Addr}{c:List V}(e:Kp H H')(h:bd K H a c):bd K H' a c:=e.tp.sq e.fz h
def fi.kp(e:Kp H H')(h:fi K H r v):fi K H' r v:=by induction h with|any h=>exact .any (e.tq h)|has h=>exact .has (e.tq h)|least h=>exact .least (e.tq h)|not h _ q=>exact .not (e.tq h) q|both h _ _ q r=>exact .both (e.tq h) q r|either h _ _ q r=>exact .either (e.tq h) q r
def rH(K:N1)(H:Hp)(d:List (Str×Int))(v:V):Prop:=∃a c,v=.ref a/\bd K H a c/\c.length=d.length/\∀(i:Nat)(m:Str×Int),d[i]?=some m->∃b,c[i]?=some (.ref b)/\bd K H b [.str m.1,.int m.2]
def rH.kp(e:Kp H H')(h:rH K H c v):rH K H' c v:=by obtain⟨a,d,h1,h2,h3,h4⟩:=h;exact⟨a,d,h1,e.tq h2,h3,λi m hm=>let⟨b,f,g⟩:=h4 i m hm;⟨b,f,e.tq g⟩⟩
def sf{c d:Type}{f:c->d}{l:List c}{i:Nat}{m:c}(h:l[i]?=some m):(l.take (i+1)).map f=(l.take i).map f++[f m]:=by rw[rr,h,gg];rfl
inductive jJ(ws:N7):Ru->Prop|any:jJ ws .any|has{w:Str}:w∈ws->jJ ws (.has w)|least{w:Str}{n:Int}:w∈ws->-dw<=n->n<=dw->jJ ws (.least w n)|not{q:Ru}:jJ ws q->jJ ws (.not q)|both{q r:Ru}:jJ ws q->jJ ws r->jJ ws (.both q r)|either{q r:Ru}:jJ ws q->jJ ws r->jJ ws (.either q r)
def pC:(100:Int)<=dw:=by have:=vg;lia
def Ru.subs:Ru->List Ru|.any=>[.any]|.has w=>[.has w]|.least w n=>[.least w n]|.not q=>.not q::q.subs|.both q r=>.both q r::(q.subs++r.subs)|.either q r=>.either q r::(q.subs++r.subs)
def Ru.cnt(r:Ru):Nat:=r.subs.length
def Ru.words:Ru->List Str|.any=>[]|.has w=>[w]|.least w _=>[w]|.not q=>q.words|.both q r=>q.words++r.words|.either q r=>q.words++r.words
def Ru.word1:Ru->Option Str|.has w=>some w|.least w _=>some w|_=>none
theorem Ru.words_subs:∀r:Ru,r.subs.filterMap Ru.word1=r.words|.any=>rfl|.has _=>rfl|.least _ _=>rfl|.not q=>by show(Ru.not q::q.subs).filterMap Ru.word1=q.words;rw[M0 rfl,q.words_subs]|.both q r=>by show(Ru.both q r::(q.subs++r.subs)).filterMap Ru.word1=q.words++r.words;rw[M0 rfl,Nq,q.words_subs,r.words_subs]|.either q r=>by show(Ru.either q r::(q.subs++r.subs)).filterMap Ru.word1=q.words++r.words;rw[M0 rfl,Nq,q.words_subs,r.words_subs]
def AJ{a b:Nat}:2^a+2^b<=2^(max a b+1):=by have h1:2^a<=2^max a b:=y_ (by decide) (Nk _ _);have h2:2^b<=2^max a b:=y_ (by decide) (M7 _ _);rw[Nf];lia
theorem Ru.cnt_lt:∀r:Ru,r.cnt+1<=2^r.hgt|.any=>eN _|.has _=>eN _|.least _ _=>eN _|.not q=>by have h:=q.cnt_lt;show(q.subs.length+1)+1<=2^(q.hgt+1);unfold Ru.cnt at h;rw[Nf];have:=q.hgt_pos;have:2^1<=2^q.hgt:=y_ (by decide) this;lia|.both q r=>by have h1:=q.cnt_lt;have h2:=r.cnt_lt;show((q.subs++r.subs).length+1)+1<=2^(max q.hgt r.hgt+1);unfold Ru.cnt at h1 h2;rw[ga];have:=AJ (a:=q.hgt) (b:=r.hgt);lia|.either q r=>by have h1:=q.cnt_lt;have h2:=r.cnt_lt;show((q.subs++r.subs).length+1)+1<=2^(max q.hgt r.hgt+1);unfold Ru.cnt at h1 h2;rw[ga];have:=AJ (a:=q.hgt) (b:=r.hgt);lia
def Ru.words_le(r:Ru):r.words.length<=r.cnt:=by rw[<-r.words_subs];exact List.length_filterMap_le _ _
structure xf(s:Str)(m:Nat)(x:Str):Prop where
 lo:1<=x.length
 hi:x.length<=m
 cs:∀c∈x.cps.toList,c∈s.cps.toList
abbrev oU:Str:="abcdefghijklmnopqrstuvwxyz"
abbrev jI:Str:="abcdefghijklmnopqrstuvwxyz0123456789"
abbrev Wd:Str->Prop:=xf oU 12
abbrev Be:Str->Prop:=xf jI 24
def Ex(x:Str):x.cps.toList.length=x.length:=by show x.cps.toList.length=x.cps.size;simp
def Dt:List Str:=["ab","ba","b","a","aab","abab","bab","aa","abb","baa","bb","soap"]
def xy:Nat->Str|0=>""|1=>"soap"|2=>"upperlayer"|_=>"z"
def jc(N:Int):Str:=xy (N%4).toNat
def zj(N:Int):Int:=N/4%(((jc N).length:Int)+1)
def oV(k:Nat):Str:=⟨#[97+k]⟩
def sw(i:Nat):Str:=(Dt[i]?).getD "a"
def BW(z:Str)(i:Int)(c:Nat):Str:=Txt.slice z none (some i)++oV c++Txt.slice z (some i) none
def cV(k N:Int):Str:=if N/40%2=1 then sw ((k+N/80)%12).toNat else BW (jc N) (zj N) ((k+N/80)%26).toNat
def J6(x:Str):Bool:=decide (1<=x.length)&&decide (x.length<=12)&&x.cps.toList.all λc=>decide (c∈oU.cps.toList)
def vc(h:J6 x=true):Wd x:=by unfold J6 at h;rw[k4,k4]at h;exact⟨i_ h.1.1,i_ h.1.2,λc hc=>i_ (List.all_eq_true.mp h.2 c hc)⟩
def Gk:∀i∈List.range 12,J6 (sw i)=true:=by decide+kernel
def Dq:∀i∈List.range 12,∀j∈List.range 12,sw i=sw j->i=j:=by decide+kernel
def Jm:∀r∈List.range 4,∀i∈List.range 11,∀c∈List.range 26,J6 (BW (xy r) (i:Int) c)=true:=by decide+kernel
def Bq(r:Nat):(xy r).length<=10:=by
 unfold xy
 split<;>decide+kernel
def pE(N:Int):(jc N).length<=10:=Bq _
def At(N:Int):0<=zj N/\zj N<((jc N).length:Int)+1:=⟨MI _ (by exact i_ rfl),F_ _ (by exact o_.mpr (n0 _))⟩
def rZ(k N:Int):Wd (cV k N):=by
 unfold cV;have b1:=aZ (k+N/80) (show(0:Int)<12 by decide);have b2:=aZ (k+N/80) (show(0:Int)<26 by decide);have b3:=aZ N (show(0:Int)<4 by decide);have b4:=At N;have b5:=pE N
 split
 ·exact vc (Gk _ (by rw[n_];lia))
 ·have:=Jm (N%4).toNat (by rw[n_];lia) (zj N).toNat (by rw[n_];lia) ((k+N/80)%26).toNat (by rw[n_];lia);rw[show(((zj N).toNat:Nat):Int)=zj N by lia]at this;exact vc this
def GJ(h:BW z i c=BW z i d):c=d:=by have h:((Txt.slice z none (some i)).cps++#[97+c]++(Txt.slice z (some i) none).cps)=((Txt.slice z none (some i)).cps++#[97+d]++(Txt.slice z (some i) none).cps):=ri Str.cps h;have h2:=ri Array.toList h;simp at h2;exact h2
def pA(hi:0<=i/\i<12)(hj:0<=j/\j<12)(h:cV i N=cV j N):i=j:=by
 unfold cV at h
 split at h
 ·have:=Dq _ (by rw[n_];lia) _ (by rw[n_];lia) h;lia
 ·have:=GJ h;lia
def Ew:∀c∈List.range 26,um ("abcdefghijklmnopqrstuvwxyz":Str).cps.toList (c:Int)=some (97+c):=by decide+kernel
def CS:um [V.str "",V.str "soap",V.str "upperlayer",V.str "z"] (N%4)=some (V.str (jc N)):=by have h1:0<=N%4:=MI _ (by decide);have h2:N%4<4:=F_ _ (by decide);unfold jc;rcases(by lia:N%4=0\/N%4=1\/N%4=2\/N%4=3)with e|e|e|e<;>rw[e]<;>rfl
def Dr:∀i∈List.range 12,um (Dt.map V.str) (i:Int)=some (V.str (sw i)):=by intro i hi;rw[n_]at hi;rcases(by lia:i=0\/i=1\/i=2\/i=3\/i=4\/i=5\/i=6\/i=7\/i=8\/i=9\/i=10\/i=11)with rfl|rfl|rfl|rfl|rfl|rfl|rfl|rfl|rfl|rfl|rfl|rfl<;>rfl
inductive FO(vs:List V)(H:Hp)(Q:VK)(_E:XK):Prop|mk(k N:Int)(_:vs=[.int k,.int N])(_:∀H',am H H'->Q (.str (cV k N)) H')
local macro_rules|`(tactic|walk_at "a")=>`(tactic|(repeat(first|refine U rfl ?_|refine r2 ?_|refine⟨(rfl:fw _ _=true),?_⟩|refine⟨(show fk _ _ from cd rfl),?_⟩|refine⟨(show(0:Int)<_ by first|decide|lia),?_⟩|refine⟨(rfl:V.int 10=V.int 10),rfl,?_⟩)))
section
def oM(T:Txt K mg a):aQ P w K mg base dB 1 a.px.x a.px.d ["_law_k","_law_number"] FO:=by
 refine T.px.ok n9 λn A outer s H y Q E z h=>?_
 ·obtain⟨k,N,rfl,q⟩:=h;refine⟨_,(af (aL (aD aT (aA aS (aA bL (Y 1) ae) ae) ae (aF _)) (af (bj 2 n9.nd (bu (ac aE (ac aE (ac aE (ac aE (ac aE (ac aE (ac aE (ac aE (ac aE (ac aE (ac aE (ac aE O)))))))))))))) (ah (az (gB K (Y 2) (aA aS (aA bQ (Y 0) (aA bL (Y 1) ae)) ae))))) aC) (af (bj 3 n9.nd (gB K (bu (ac aE (ac aE (ac aE (ac aE O))))) (aA aS (Y 1) ae))) (af (bj 4 n9.nd (aA aS (aA bL (Y 1) ae) (aA bQ (au (aG K rfl) (by rfl) T.bo L2.aK (ac (Y 3) O)) ae))) (ah (az (aA iW (aA iW (gk wj (Y 3) iy (ix (Y 4))) (xW zY aE (aA aS (aA bQ (Y 0) (aA bL (Y 1) ae)) ae) (λ_ _=>rfl))) (gk wj (Y 3) (ix (Y 4)) iy))))))),?_⟩
  have b1:=aZ (k+N/80) (show(0:Int)<12 by decide);have b2:=aZ (k+N/80) (show(0:Int)<26 by decide);have p:=pE N
  walk_at "a"
  refine kj (λf=>?_) (λf=>?_)
  ·have g:cV k N=sw ((k+N/80)%12).toNat:=gn f;refine⟨ls rfl,λl hl=>?_⟩
   walk_at "a"
   have c:=Dr ((k+N/80)%12).toNat (by rw[n_];lia);rw[show((((k+N/80)%12).toNat:Nat):Int)=(k+N/80)%12 by lia]at c;refine⟨l,_,_,U rfl ⟨rfl,aX.of ag,c,?_⟩⟩;rw[<-g];exact q _ (aj (am.refl H) hl)
  ·have g:cV k N=BW (jc N) (zj N) ((k+N/80)%26).toNat:=ge f;refine⟨ls rfl,λl hl=>?_⟩;have m:=aj (o:=.lst [V.str "",V.str "soap",V.str "upperlayer",V.str "z"]) (am.refl H) hl;have e:aJ H l (.lst [V.str "",V.str "soap",V.str "upperlayer",V.str "z"]) l=some (.lst [V.str "",V.str "soap",V.str "upperlayer",V.str "z"]):=ag;generalize aJ H l (.lst [V.str "",V.str "soap",V.str "upperlayer",V.str "z"])=B at m e⊢
   walk_at "a"
   refine⟨l,_,_,U rfl ⟨rfl,aX.of e,CS,aq ?_⟩⟩;have r:=At N;have t:=Txt.slice_le (jc N) none (some (zj N));have u:=Txt.slice_le (jc N) (some (zj N)) none
   walk_at "a"
   refine⟨_,(jc N).length,rfl,⟨df (by lia),rfl⟩,_,U rfl ⟨rfl,r2 ⟨(by show(0:Int)<_;exact o_.mpr (n0 _)),aq ?_⟩⟩⟩;have i:∀a b:Str,(a++b).length=a.length+b.length:=λa b=>by show(a.cps++b.cps).size=a.cps.size+b.cps.size;exact Array.size_append
   have v:(oV ((k+N/80)%26).toNat).length=1:=rfl;have c:=Ew ((k+N/80)%26).toNat (by rw[n_];lia);rw[show((((k+N/80)%26).toNat:Nat):Int)=(k+N/80)%26 by lia]at c;refine U rfl (U rfl ⟨zj N,rfl,jc N,rfl,df (by lia),?_⟩)
   walk_at "a"
   refine⟨"abcdefghijklmnopqrstuvwxyz",_,97+((k+N/80)%26).toNat,rfl,rfl,df (by decide+kernel),c,_,oV ((k+N/80)%26).toNat,rfl,rfl,df (by lia),U rfl (U rfl ⟨zj N,rfl,jc N,rfl,df (by lia),_,U rfl ⟨rfl,df (by rw[i];lia),?_⟩⟩)⟩;have j:Txt.slice (jc N) none (some (zj N))++oV ((k+N/80)%26).toNat++Txt.slice (jc N) (some (zj N)) none=cV k N:=by rw[g];rfl
   rw[j];exact q _ m
end
inductive FP(K:N1)(vs:List V)(H:Hp)(Q:VK)(_E:XK):Prop|mk(z:_)(_:vs=[.int z])(_:Q (.bl true) H)
def x6(s:Str)(m:Nat)(x:Str):Bool:=decide (1<=x.length)&&(decide (x.length<=m)&&x.cps.toList.all λc=>decide (c∈s.cps.toList))
def xf.b{s:Str}{m:Nat}{x:Str}(h:xf s m x):x6 s m x=true:=by unfold x6;rw[il h.lo,il h.hi];exact List.all_eq_true.mpr λc hc=>il (h.cs c hc)
def ze(K:N1)(H:Hp)(v:V):Prop:=∃T,lZ K H v (.type T)/\PySem.W.kitOne K (.type T) (.type "str")=some false
def xg(K:N1)(H:Hp)(v:V):Prop:=ze K H v\/∃x:Str,v=.str x/\x.length<=60/\x6 oU 12 x=false
inductive CY(K:N1)(vs:List V)(H:Hp)(Q:VK)(_E:XK):Prop|mk(v:V)(s:Str)(m:Nat)(_:vs=[v,.str s,.int m])(_:((∃x:Str,v=.str x/\x.length<=60/\∀H',am H H'->Q (.bl (x6 s m x)) H')\/(ze K H v/\Q (.bl false) H)))
inductive L1(K:N1)(vs:List V)(H:Hp)(Q:VK)(_E:XK):Prop|mk(v:V)(_:vs=[v])(_:((∃x,v=.str x/\Wd x/\∀H',am H H'->Q (.bl true) H')\/(xg K H v/\∀H',am H H'->Q (.bl false) H')))
inductive KG(vs:List V)(H:Hp)(Q:VK)(_E:XK):Prop|mk(x:_)(_:vs=[.str x])(_:Be x)(_:∀H',am H H'->Q (.bl true) H')
inductive KF(vs:List V)(H:Hp)(Q:VK)(_E:XK):Prop|mk(z:_)(_:vs=[.int z])(_:(-dw<=z/\z<=dw))(_:Q (.bl true) H)
inductive F8(vs:List V)(H:Hp)(Q:VK)(_E:XK):Prop|mk(z:_)(_:vs=[.int z])(_:0<=z)(_:Q (.bl true) H)
inductive FR(vs:List V)(H:Hp)(Q:VK)(_E:XK):Prop|mk(z:_)(_:vs=[.int z])(_:(0<=z/\z<=1000))(_:Q (.bl true) H)
inductive CV(vs:List V)(H:Hp)(Q:VK)(_E:XK):Prop|mk(z:_)(_:vs=[.int z])(_:(1<=z/\z<=dw))(_:Q (.bl true) H)
def kE{Q:VK}{p:Prop}[Decidable p]{H:Hp}(h:p)(q:Q (.bl true) H):Q (.bl (decide p)) H:=by rw[il h];exact q
section
def jp(T:Txt K mg a):aQ P w K mg base dB 1 a.gu.x a.gu.d ["thing"] (FP K):=by
 refine T.gu.ok xF λb A outer s H c Q E e h=>?_
 ·obtain⟨z,rfl,k⟩:=h;refine⟨_,(ah (az (cr (au (iL K rfl) (by rfl) T.bE L2.a9 (ac (Y 0) (ac (jm rfl T.HJ L2.y7) O))) (dn (zH (au (iL K rfl) (by rfl) T.bE L2.a9 (ac (Y 0) (ac (jm rfl T.D5 L2.vU) O)))))))),?_⟩;refine U rfl ⟨_,"int",_,true,rfl,.int z,fC (by decide+kernel),true,rfl,bD ?_⟩;exact U rfl ⟨_,"bool",_,false,rfl,.int z,fC (by decide+kernel),false,rfl,k⟩
def mS(T:Txt K mg a):aQ P w K mg base dB 1 a.fL.x a.fL.d ["thing","signs","longest"] (CY K):=by
 refine T.fL.ok uE λf A outer s H l Q E n h=>?_
 ·obtain⟨v,g,m,rfl,h⟩:=h;refine⟨_,(af (aL (bV (aM K rfl (au (iL K rfl) (by rfl) T.bE L2.a9 (ac (Y 0) (ac (jm rfl T.HI L2.y6) O))) (λ_=>rfl))) (ah (az dS)) aC) (ah (az (cr (tI jn jn ae (au (aG K rfl) (by rfl) T.bo L2.aK (ac (Y 0) O)) (Y 2)) (dn (au (iM K rfl rfl) (by rfl) T.vz L2.kz (ac (rT kU ["sign"] [] [3] (ai kG) (cb 3) (DJ (Y 0)) (λcl C s₀ H₀ ex=>⟨(oI kU ["sign"] 3),cF,(bT BO (Y 3) (Y 1) (by with_unfolding_all rfl))⟩)) O))))))),?_⟩
  rcases h with⟨x,rfl,o,q⟩|⟨⟨p,ty,j⟩,q⟩
  ·refine U rfl ⟨_,"str",_,true,rfl,.str x,fC (by decide+kernel),true,rfl,bX ?_⟩;refine U rfl ⟨_,x.length,rfl,⟨by rw[g8];lia,rfl⟩,_,U rfl ⟨rfl,U rfl ?_⟩⟩;unfold x6 at q;refine iZ (λh1=>?_) (λh1=>?_)
   ·rw[il (show 1<=x.length by omega),Bool.true_and]at q;refine U rfl (r2 (U rfl ?_));refine iZ (λh2=>?_) (λh2=>?_)
    ·rw[il (show x.length<=m by omega),Bool.true_and]at q;refine U rfl ⟨x,rfl,λD k=>?_⟩;have hl:=Ex x;refine Fc (K:=K) (z:=x) (λi b e=>b=((x.cps.toList.take i).map λc=>decide (c∈g.cps.toList)).map V.bl/\e=aJ H D (.lst b)) ⟨rfl,rfl⟩ ?_ ?_
     ·rintro i c b e hc⟨rfl,rfl⟩;have hi:i<x.cps.toList.length:=(d_.mp hc).1;refine aq (jB (bD ?_));refine U rfl (U rfl ⟨_,U rfl ⟨rfl,ag,?_,lf hi ⟨?_,?_⟩⟩⟩)
      ·rw[b_,b_,ji,g8];lia
      ·rw[StrLaws.found_one,rr,hc,gg,gg];rfl
      ·rw[gU]
     ·rintro b e⟨rfl,rfl⟩;refine⟨D,_,rfl,aX.of ag,?_⟩;rw[hH (eN _),List.all_map];exact q _ (aj (am.refl _) k)
    ·rw[iA (show¬x.length<=m by omega),Bool.false_and]at q;exact q H (am.refl H)
   ·rw[iA (show¬1<=x.length by omega),Bool.false_and]at q;exact U rfl (bX (q H (am.refl H)))
  ·exact U rfl ⟨_,"str",_,false,rfl,ty,j,false,rfl,bD q⟩
def gH(T:Txt K mg a):aQ P w K mg base dB 2 a.dZ.x a.dZ.d ["thing"] (L1 K):=by
 refine T.dZ.ok zv λe A outer s H g Q E f h=>?_
 ·obtain⟨v,rfl,h⟩:=h;refine⟨_,(ah (az (pc T.fL (mS T) f (ac (Y 0) (ac (cJ T.Ct rfl) (ac (cJ T.ue rfl) O)))))),?_⟩;refine U rfl ⟨v,_,12,rfl,?_⟩;rcases h with⟨x,rfl,c,q⟩|⟨h|⟨x,rfl,h1,h2⟩,q⟩
  ·exact .inl ⟨x,rfl,by have:=c.hi;omega,by rw[c.b];exact q⟩
  ·exact .inr ⟨h,q H (am.refl H)⟩
  ·exact .inl ⟨x,rfl,h1,by rw[h2];exact q⟩
def yf(T:Txt K mg a):aQ P w K mg base dB 2 a.ko.x a.ko.d ["thing"] KG:=by
 refine T.ko.ok xI λe A outer s H g Q E f h=>?_
 ·obtain⟨x,rfl,c,q⟩:=h;refine⟨_,(ah (az (pc T.fL (mS T) f (ac (Y 0) (ac (cJ T.m9 rfl) (ac (cJ T.rE rfl) O)))))),?_⟩;exact U rfl ⟨.str x,_,24,rfl,.inl ⟨x,rfl,by have:=c.hi;omega,by rw[c.b];exact q⟩⟩
def oJ(T:Txt K mg a):aQ P w K mg base dB 2 a.ff.x a.ff.d ["thing"] KF:=by
 refine T.ff.ok wo λb A outer s H e Q E c h=>?_
 ·obtain⟨z,rfl,⟨h1,h2⟩,q⟩:=h;refine⟨_,(ah (az (cr (pc T.gu (jp T) c (ac (Y 0) O)) (dn (tI jn jn (KU Ig (aA tL ae ae)) (Y 0) (aA tL ae ae)))))),?_⟩;refine U rfl ⟨z,rfl,U rfl (bD ?_)⟩
  walk_at "a"
  refine iZ (λ_=>?_) (λh=>absurd h1 h)
  walk_at "a"
  exact kE h2 q
def fQ(T:Txt K mg a):aQ P w K mg base dB 2 a.eS.x a.eS.d ["thing"] F8:=by
 refine T.eS.ok xJ λb A outer s H e Q E c h=>?_
 ·obtain⟨z,rfl,h1,q⟩:=h;refine⟨_,(ah (az (cr (pc T.gu (jp T) c (ac (Y 0) O)) (dn (bT DQ (Y 0) ae (aF _)))))),?_⟩;refine U rfl ⟨z,rfl,U rfl (bD ?_)⟩
  walk_at "a"
  exact kE h1 q
def yd(T:Txt K mg a):aQ P w K mg base dB 3 a.km.x a.km.d ["thing"] FR:=by
 refine T.km.ok xG λb A outer s H e Q E c h=>?_
 ·obtain⟨z,rfl,⟨h1,h2⟩,q⟩:=h;refine⟨_,(ah (az (cr (pc T.eS (fQ T) c (ac (Y 0) O)) (dn (bT jn (Y 0) (cJ T.wX rfl) (aF _)))))),?_⟩;refine U rfl ⟨z,rfl,h1,U rfl (bD ?_)⟩
  walk_at "a"
  exact kE h2 q
def wD(T:Txt K mg a):aQ P w K mg base dB 2 a.iK.x a.iK.d ["thing"] CV:=by
 refine T.iK.ok wm λb A outer s H e Q E c h=>?_
 ·obtain⟨z,rfl,⟨h1,h2⟩,q⟩:=h;refine⟨_,(ah (az (cr (pc T.gu (jp T) c (ac (Y 0) O)) (dn (tI jn jn ae (Y 0) (aA tL ae ae)))))),?_⟩;refine U rfl ⟨z,rfl,U rfl (bD ?_)⟩
  walk_at "a"
  refine iZ (λ_=>?_) (λh=>absurd h1 h)
  walk_at "a"
  exact kE h2 q
end
inductive IE(K:N1)(vs:List V)(H:Hp)(Q:VK)(_E:XK):Prop|mk(b:Addr)(m:Str×Int)(_:vs=[.ref b])(_:bd K H b [.str m.1,.int m.2])(_:Wd m.1)(_:(-dw<=m.2/\m.2<=dw))(_:∀H',am H H'->Q (.bl true) H')
inductive F2(K:N1)(vs:List V)(H:Hp)(Q:VK)(_E:XK):Prop|mk(v:V)(l:List (Str×Int))(_:vs=[v])(_:rH K H l v)(_:(∀m∈l,Wd m.1/\-dw<=m.2/\m.2<=dw))(_:(l.map Prod.fst).Nodup)(_:l.length<=8)(_:∀H',am H H'->Q (.bl true) H')
inductive Db(K:N1)(vs:List V)(H:Hp)(Q:VK)(_E:XK):Prop|mk(p:Addr)(l:Ob)(_:vs=[.ref p,.int (l.length:Nat)])(_:bd K H p (l.map V.int))(_:(∀i∈l,0<=i))(_:l.length<=100)(_:∀H',am H H'->Q (.bl true) H')
inductive Bs(K:N1)(vs:List V)(H:Hp)(Q:VK)(_E:XK):Prop|mk(p:Addr)(l:Ob)(_:vs=[.ref p,.int (l.length:Nat)])(_:bd K H p (l.map V.int))(_:(∀i∈l,1<=i/\i<=dw))(_:l.length<=100)(_:∀H',am H H'->Q (.bl true) H')
inductive IN(K:N1)(vs:List V)(H:Hp)(Q:VK)(_E:XK):Prop|mk(p:Addr)(l:N7)(_:vs=[.ref p])(_:bd K H p (l.map V.str))(_:(∀w∈l,Wd w))(_:l.Nodup)(_:1<=l.length)(_:l.length<=4)(_:∀H',am H H'->Q (.bl true) H')
def iO(i:Nat):(List.replicate i true).map V.bl++[V.bl true]=(List.replicate (i+1) true).map V.bl:=by rw[List.replicate_succ',gg];rfl
def jQ(n:Nat):(List.replicate n true).all id=true:=by simp
def jP(i:Nat)(h:i<=1000):((List.replicate i true).map V.bl).length<sizeLine:=by rw[b_,Mt,g8];exact q_ h (i_ rfl)
def wI{c d:Type}{f:c->d}{l:List c}{i:Nat}{v:d}(h:(l.map f)[i]?=some v):∃x,l[i]?=some x/\v=f x/\x∈l:=by rw[f_]at h;cases e:l[i]?with|none=>rw[e]at h;cases h|some x=>rw[e]at h;cases h;exact⟨x,rfl,rfl,e_ e⟩
def vE(l:N7):(l.map (Sum.inr:Str->cu)).map kV=l.map V.str:=by rw[rx];rfl
def yE{l:N7}(h:l.Nodup):(dd (l.map (Sum.inr:Str->cu))).length=l.length:=by have:=(JR (l.map (Sum.inr:Str->cu))).mpr (h.map _ (λa b h e=>h (o0 e)));rw[this,b_]
section
def zL(T:Txt K mg a):aQ P w K mg base dB 3 a.mq.x a.mq.d ["thing"] (IE K):=by
 refine T.mq.ok zy λg A outer s H j Q E e h=>?_
 ·obtain⟨b,m,rfl,c,h1,h2,q⟩:=h;refine⟨_,(ah (az (cr (au (eW K rfl) (by rfl) T.bE L2.a9 (ac (Y 0) (ac (jm rfl T.eM L2.ce) O))) (cr (bT aT (au (aG K rfl) (by rfl) T.bo L2.aK (ac (Y 0) O)) ae (aF _)) (cr (pc T.dZ (gH T) e (ac (dg K (Y 0) ae) O)) (dn (pc T.ff (oJ T) e (ac (dg K (Y 0) ae) O)))))))),?_⟩;refine U rfl ⟨_,"tuple",_,true,rfl,.inr ⟨b,U rfl ⟨c,rfl⟩⟩,fC (by decide+kernel),true,rfl,bD ?_⟩;refine U rfl ⟨_,2,rfl,.inr ⟨_,c,rfl⟩,rfl,U rfl (bD ?_)⟩;refine U rfl (rX c rfl ⟨V.str m.1,rfl,.inl ⟨m.1,rfl,h1,λi f=>(U rfl (bD ?_))⟩⟩);exact U rfl (rX (am.tseq f c) rfl ⟨m.2,rfl,h2,q i f⟩)
def wE(T:Txt K mg a):aQ P w K mg base dB 4 a.iN.x a.iN.d ["thing"] (F2 K):=by
 refine T.iN.ok wu λW A outer s H g Q E X h=>?_
 ·obtain⟨v,l,rfl,Z,h1,h2,h3,q⟩:=h;obtain⟨p,g,rfl,j,y,z⟩:=Z;refine⟨_,(af (aL (PW.pt (fm (bV (aM K rfl (au (eW K rfl) (by rfl) T.bE L2.a9 (ac (Y 0) (ac (jm rfl T.eM L2.ce) O))) (λ_=>rfl))) (dI (aD qG (au (aG K rfl) (by rfl) T.bo L2.aK (ac (Y 0) O)) (cJ T.w4 rfl) (aF _))))) (ah (az dS)) aC) (af (aL (bV (aM K rfl (au (iM K rfl rfl) (by rfl) T.vz L2.kz (ac (rT ["thing"] ["mark"] [] [1] (ai jh) (cb 1) (iB K rfl (Y 0)) (λcl C s₀ H₀ ex=>⟨(oI ["thing"] ["mark"] 1),cF,(pc T.mq (zL T) X (ac (Y 1) O))⟩)) O)) (λ_=>rfl))) (ah (az dS)) aC) (ah (az (bT aT (au (ud (P:=P) (w:=w)) (by rfl) T.bo L2.aK (ac (dL (uc (P:=P) (w:=w) K rfl rfl) (by rfl) T.D0 L2.ug (ac (rT ["thing"] ["mark"] [] [1] (ai jh) (cb 1) (iB K rfl (Y 0)) (λcl C s₀ H₀ ex=>⟨(oI ["thing"] ["mark"] 1),cF,(dg K (Y 1) ae)⟩)) O)) O)) (au (aG K rfl) (by rfl) T.bo L2.aK (ac (Y 0) O)) (aF _)))))),?_⟩
  refine U rfl ⟨_,"tuple",_,true,rfl,.inr ⟨p,U rfl ⟨j,rfl⟩⟩,fC (by decide+kernel),true,rfl,bX ?_⟩;refine U rfl ⟨_,g.length,rfl,.inr ⟨_,j,rfl⟩,_,U rfl ⟨rfl,U rfl (iZ (λh=>absurd h (by lia)) (λ_=>?_))⟩⟩;refine U rfl ⟨p,rfl,⟨_,j⟩,λD L=>?_⟩;refine ib (K:=K) (a:=p) (xs:=g) (λi c H'=>c=(List.replicate i true).map V.bl/\am H H'/\H' D=some (.lst c)) ⟨rfl,aj (am.refl _) L,ag⟩ (λi c H' _ h=>am.tseq h.2.1 j) ?_ ?_
  ·rintro i v c M k⟨rfl,n,r⟩;have hi:i<g.length:=(d_.mp k).1;have e:l[i]?=some (l[i]'(by lia)):=fx (by lia);generalize l[i]'(by lia)=m at e;obtain⟨b,F,G⟩:=z i m e;rw[F]at k;cases k;have hm:=h1 m (e_ e);refine aq (jB (bD (U rfl ⟨b,m,rfl,am.tseq n G,hm.1,hm.2,λI t=>⟨t _ _ r,jP i (by lia),lf hi ⟨iO i,bM (n.trans t) L,ag⟩⟩⟩)))
  ·rintro c M⟨rfl,n,r⟩;refine⟨D,_,rfl,aX.of r,_,rfl,?_⟩;rw[jQ];refine bX (U rfl ⟨p,rfl,⟨_,am.tseq n j⟩,λN B=>?_⟩);refine ib (K:=K) (a:=p) (xs:=g) (λi c H'=>c=((l.take i).map Prod.fst).map V.str/\am M H'/\H' N=some (.lst c)) ⟨by rw[z3];rfl,aj (am.refl _) B,ag⟩ (λi c H' _ h=>am.tseq (n.trans h.2.1) j) ?_ ?_
   ·rintro i v c I k⟨rfl,t,f⟩;have hi:i<g.length:=(d_.mp k).1;have e:l[i]?=some (l[i]'(by lia)):=fx (by lia);generalize l[i]'(by lia)=m at e;obtain⟨b,F,G⟩:=z i m e;rw[F]at k;cases k;refine aq (jB (bD (U rfl (rX (am.tseq (n.trans t) G) rfl ⟨f,?_,lf hi ⟨?_,bM t B,ag⟩⟩))))
    ·rw[b_,b_,ji,g8];lia
    ·rw[sf e,gg];rfl
   ·rintro c I⟨rfl,t,f⟩;rw[hH (by exact B_ y.symm),<-vE]at f;have u:=yE h2;rw[b_]at u;refine⟨N,(l.map Prod.fst).map Sum.inr,rfl,aX.of f,by rw[b_,b_];exact q_ h3 (i_ rfl),λR J=>?_⟩;refine⟨R,U rfl ⟨ag,by rw[u];omega,?_⟩⟩;have S:∀o,am H (aJ I R o):=λo=>aj (n.trans t) J;refine U rfl ⟨_,g.length,rfl,.inr ⟨_,am.tseq (S _) j,rfl⟩,rfl,?_⟩;rw[u,<-y,il rfl];exact q _ (S _)
def uS(T:Txt K mg a):aQ P w K mg base dB 3 a.gP.x a.gP.d ["thing","many"] (Db K):=by
 refine T.gP.ok uJ λk A outer s H r Q E m h=>?_
 ·obtain⟨p,l,rfl,e,h1,h2,q⟩:=h;refine⟨_,(ah (az (cr (au (eW K rfl) (by rfl) T.bE L2.a9 (ac (Y 0) (ac (jm rfl T.eM L2.ce) O))) (cr (bT aT (au (aG K rfl) (by rfl) T.bo L2.aK (ac (Y 0) O)) (Y 1) (aF _)) (dn (au (iM K rfl rfl) (by rfl) T.vz L2.kz (ac (rT iF ["number"] [] [2] (ai kH) (cb 2) (iB K rfl (Y 0)) (λcl C s₀ H₀ ex=>⟨(oI iF ["number"] 2),cF,(pc T.eS (fQ T) m (ac (Y 2) O))⟩)) O))))))),?_⟩
  refine U rfl ⟨_,"tuple",_,true,rfl,.inr ⟨p,U rfl ⟨e,rfl⟩⟩,fC (by decide+kernel),true,rfl,bD ?_⟩;refine U rfl ⟨_,l.length,rfl,.inr ⟨_,e,by simp⟩,U rfl ⟨rfl,U rfl ?_⟩⟩;rw[il rfl];refine bD (U rfl ⟨p,rfl,⟨_,e⟩,λD g=>?_⟩);refine ib (K:=K) (a:=p) (xs:=l.map V.int) (λi b H'=>b=(List.replicate i true).map V.bl/\am H H'/\H' D=some (.lst b)) ⟨rfl,aj (am.refl _) g,ag⟩ (λi b H' _ h=>am.tseq h.2.1 e) ?_ ?_
  ·rintro i v b n j⟨rfl,f,c⟩;have hi:=(d_.mp j).1;obtain⟨z,_,rfl,hz⟩:=wI j;have o:i<l.length:=by simpa using hi
   exact aq (jB (bD (U rfl ⟨z,rfl,h1 z hz,c,jP i (by lia),lf hi ⟨iO i,bM f g,ag⟩⟩)))
  ·rintro b n⟨rfl,f,c⟩;refine⟨D,_,rfl,aX.of c,?_⟩;rw[jQ];exact q _ f
def tT(T:Txt K mg a):aQ P w K mg base dB 3 a.f8.x a.f8.d ["thing","many"] (Bs K):=by
 refine T.f8.ok sP λk A outer s H r Q E m h=>?_
 ·obtain⟨p,l,rfl,e,h1,h2,q⟩:=h;refine⟨_,(ah (az (cr (au (eW K rfl) (by rfl) T.bE L2.a9 (ac (Y 0) (ac (jm rfl T.eM L2.ce) O))) (cr (bT aT (au (aG K rfl) (by rfl) T.bo L2.aK (ac (Y 0) O)) (Y 1) (aF _)) (dn (au (iM K rfl rfl) (by rfl) T.vz L2.kz (ac (rT ng ["number"] [] [2] (ai jG) (cb 2) (iB K rfl (Y 0)) (λcl C s₀ H₀ ex=>⟨(oI iF ["number"] 2),cF,(pc T.iK (wD T) m (ac (Y 2) O))⟩)) O))))))),?_⟩
  refine U rfl ⟨_,"tuple",_,true,rfl,.inr ⟨p,U rfl ⟨e,rfl⟩⟩,fC (by decide+kernel),true,rfl,bD ?_⟩;refine U rfl ⟨_,l.length,rfl,.inr ⟨_,e,by simp⟩,U rfl ⟨rfl,U rfl ?_⟩⟩;rw[il rfl];refine bD (U rfl ⟨p,rfl,⟨_,e⟩,λD g=>?_⟩);refine ib (K:=K) (a:=p) (xs:=l.map V.int) (λi b H'=>b=(List.replicate i true).map V.bl/\am H H'/\H' D=some (.lst b)) ⟨rfl,aj (am.refl _) g,ag⟩ (λi b H' _ h=>am.tseq h.2.1 e) ?_ ?_
  ·rintro i v b n j⟨rfl,f,c⟩;have hi:=(d_.mp j).1;obtain⟨z,_,rfl,hz⟩:=wI j;have o:i<l.length:=by simpa using hi
   exact aq (jB (bD (U rfl ⟨z,rfl,h1 z hz,c,jP i (by lia),lf hi ⟨iO i,bM f g,ag⟩⟩)))
  ·rintro b n⟨rfl,f,c⟩;refine⟨D,_,rfl,aX.of c,?_⟩;rw[jQ];exact q _ f
def yh(T:Txt K mg a):aQ P w K mg base dB 3 a.kA.x a.kA.d ["thing"] (IN K):=by
 refine T.kA.ok xL λB A outer s H I Q E F h=>?_
 ·obtain⟨p,l,rfl,e,h1,h2,h3,h4,q⟩:=h;refine⟨_,(af (aL (PW.pt (fm (bV (aM K rfl (au (eW K rfl) (by rfl) T.bE L2.a9 (ac (Y 0) (ac (jm rfl T.eM L2.ce) O))) (λ_=>rfl))) (dI (bV (xT jn jn ae (au (aG K rfl) (by rfl) T.bo L2.aK (ac (Y 0) O)) (cJ T.y3 rfl)))))) (ah (az dS)) aC) (ah (az (cr (au (iM K rfl rfl) (by rfl) T.vz L2.kz (ac (rT ["thing"] ["arm"] [] [1] (ai ny) (cb 1) (iB K rfl (Y 0)) (λcl C s₀ H₀ ex=>⟨(oI ["thing"] ["arm"] 1),cF,(pc T.dZ (gH T) F (ac (Y 1) O))⟩)) O)) (dn (bT aT (au (ud (P:=P) (w:=w)) (by rfl) T.bo L2.aK (ac (dL (Ao (P:=P) (w:=w) K rfl rfl) (by rfl) T.D0 L2.ug (ac (Y 0) O)) O)) (au (aG K rfl) (by rfl) T.bo L2.aK (ac (Y 0) O)) (aF _))))))),?_⟩
  refine U rfl ⟨_,"tuple",_,true,rfl,.inr ⟨p,U rfl ⟨e,rfl⟩⟩,fC (by decide+kernel),true,rfl,bX ?_⟩;have f:l.length=(l.map V.str).length:=by simp
  refine U rfl ⟨_,l.length,rfl,.inr ⟨_,e,f⟩,_,U rfl ⟨rfl,U rfl (iZ (λ_=>?_) (λh=>absurd (by exact Int.ofNat_le.mpr h3) h))⟩⟩;refine r2 (U rfl ?_);show if(!decide ((l.length:Int)<=4))=true then _ else _
  rw[il (show(l.length:Int)<=4 by exact Int.ofNat_le.mpr h4)];refine bX ?_;refine U rfl ⟨p,rfl,⟨_,e⟩,λD m=>?_⟩;refine ib (K:=K) (a:=p) (xs:=l.map V.str) (λi b H'=>b=(List.replicate i true).map V.bl/\am H H'/\H' D=some (.lst b)) ⟨rfl,aj (am.refl _) m,ag⟩ (λi b H' _ h=>am.tseq h.2.1 e) ?_ ?_
  ·rintro i v b n r⟨rfl,j,c⟩;have hi:=(d_.mp r).1;obtain⟨z,_,rfl,hz⟩:=wI r;have G:i<l.length:=by simpa using hi
   exact aq (jB (bD (U rfl ⟨V.str z,rfl,.inl ⟨z,rfl,h1 z hz,λL t=>⟨t _ _ c,jP i (by omega),lf hi ⟨iO i,bM (j.trans t) m,ag⟩⟩⟩⟩)))
  ·rintro b n⟨rfl,j,c⟩;refine⟨D,_,rfl,aX.of c,_,rfl,?_⟩;rw[jQ];have g:=yE h2;refine bD (U rfl ⟨p,l.map Sum.inr,rfl,by rw[vE];exact am.tseq j e,by rw[b_];exact q_ h4 (i_ rfl),λu k=>?_⟩);refine⟨u,U rfl ⟨ag,by rw[g];omega,?_⟩⟩;have y:∀o,am H (aJ n u o):=λo=>aj j k;refine U rfl ⟨_,l.length,rfl,.inr ⟨_,am.tseq (y _) e,f⟩,rfl,?_⟩;rw[g,il rfl];exact q _ (y _)
end
def rK{A B:Prop}{x y:Str}(h:x≠y)(b:B):if decide (V.str x=V.str y)=true then A else B:=ED (λe=>absurd e h) (λ_=>b)
def b7{A B:Prop}{x:Str}(a:A):if decide (V.str x=V.str x)=true then A else B:=ED (λ_=>a) (λh=>absurd rfl h)
def wn{A B:Prop}{x y:Str}(b:B)(h:x≠y:=by first|decide+kernel|(dsimp only[Ru.kind];decide+kernel)):if decide (V.str x=V.str y)=true then A else B:=rK h b
abbrev i4(K:N1)(H:Hp):List Ru->List V->Prop:=Paired (fi K H)
theorem i4.kp(e:Kp H H')(h:i4 K H c d):i4 K H' c d:=Paired.mapP h λ_ _ q=>q.kp e
def i4.app(h:i4 K H c d)(k:i4 K H e f):i4 K H (c++e) (d++f):=zE h k
def i4.get(h:i4 K H c d)(i:Nat)(v:V)(e:d[i]?=some v):∃r,c[i]?=some r/\fi K H r v:=wy h i v e
def Ru.kids:Ru->List Ru|.not q=>[q]|.both q r=>[q,r]|.either q r=>[q,r]|_=>[]
def Ru.kind:Ru->Str|.any=>"any"|.has _=>"has"|.least _ _=>"least"|.not _=>"not"|.both _ _=>"both"|.either _ _=>"either"
def Ru.deep:Ru->Bool|.not _=>true|.both _ _=>true|.either _ _=>true|_=>false
def Ru.subs_kids(r:Ru):r.subs=r::(r.kids.map Ru.subs).flatten:=by cases r<;>simp[Ru.subs,Ru.kids]
def fi.tup(h:fi K H r v):∃t c,v=.ref t/\bd K H t (.str r.kind::c)/\(r.deep=true->i4 K H r.kids c/\c≠[])/\(∀w,r.word1=some w->∃d,c=.str w::d):=by cases h with|any h=>exact⟨_,_,rfl,h,λe=>(nomatch e),λw e=>(nomatch e)⟩|has h=>exact⟨_,_,rfl,h,λe=>(nomatch e),λw e=>by cases e;exact⟨_,rfl⟩⟩|least h=>exact⟨_,_,rfl,h,λe=>(nomatch e),λw e=>by cases e;exact⟨_,rfl⟩⟩|not h q=>exact⟨_,U rfl ⟨h,λ_=>⟨.cons q .nil,nofun⟩,λw e=>(nomatch e)⟩⟩|both h q r=>exact⟨_,U rfl ⟨h,λ_=>⟨.cons q (.cons r .nil),nofun⟩,λw e=>(nomatch e)⟩⟩|either h q r=>exact⟨_,U rfl ⟨h,λ_=>⟨.cons q (.cons r .nil),nofun⟩,λw e=>(nomatch e)⟩⟩
def G9(r:Ru):mw (.str r.kind) [.str "not",.str "both",.str "either"]=r.deep:=by cases r with|any=>exact(show mw (.str "any") [.str "not",.str "both",.str "either"]=false by decide+kernel)|has _=>exact(show mw (.str "has") [.str "not",.str "both",.str "either"]=false by decide+kernel)|least _ _=>exact(show mw (.str "least") [.str "not",.str "both",.str "either"]=false by decide+kernel)|not _=>exact(show mw (.str "not") [.str "not",.str "both",.str "either"]=true by decide+kernel)|both _ _=>exact(show mw (.str "both") [.str "not",.str "both",.str "either"]=true by decide+kernel)|either _ _=>exact(show mw (.str "either") [.str "not",.str "both",.str "either"]=true by decide+kernel)
def G8(r:Ru):mw (.str r.kind) [.str "has",.str "least"]=r.word1.isSome:=by cases r with|any=>exact(show mw (.str "any") [.str "has",.str "least"]=false by decide+kernel)|has _=>exact(show mw (.str "has") [.str "has",.str "least"]=true by decide+kernel)|least _ _=>exact(show mw (.str "least") [.str "has",.str "least"]=true by decide+kernel)|not _=>exact(show mw (.str "not") [.str "has",.str "least"]=false by decide+kernel)|both _ _=>exact(show mw (.str "both") [.str "has",.str "least"]=false by decide+kernel)|either _ _=>exact(show mw (.str "either") [.str "has",.str "least"]=false by decide+kernel)
def GW{r k:Ru}{n:Nat}(h:k∈r.kids)(hh:r.hgt<=n+1):k.hgt<=n:=by
 cases r with|any=>cases h|has _=>cases h|least _ _=>cases h|not q=>
  have:k=q:=by simpa[Ru.kids]using h
  have hh:q.hgt+1<=n+1:=hh;rw[this];exact NI hh|both q r=>
  have:k=q\/k=r:=by simpa[Ru.kids]using h
  have hh:max q.hgt r.hgt+1<=n+1:=hh;have h1:=Nk q.hgt r.hgt;have h2:=M7 q.hgt r.hgt;rcases this with rfl|rfl<;>lia|either q r=>
  have:k=q\/k=r:=by simpa[Ru.kids]using h
  have hh:max q.hgt r.hgt+1<=n+1:=hh;have h1:=Nk q.hgt r.hgt;have h2:=M7 q.hgt r.hgt;rcases this with rfl|rfl<;>lia
def E9(x:V)(c:List V):HT.g9 (x::c).length 0 (some 1)=1:=by show(if(1:Int)<0 then((1:Int)+((x::c).length:Int)).toNat else min (1:Int).toNat (c.length+1))=1;rw[ge (by decide)];show min 1 (c.length+1)=1;exact rfl
def Hg(x:V)(c:List V):¬HT.g9 (x::c).length 0 (some 1)=0:=by rw[E9];decide
def E8(x:V)(c:List V):uZ (x::c) (some 1) none=c:=by unfold uZ;rw[E9,HT.Dy];show c.take ((c.length+1)-1)=c;rw[Nat.add_sub_cancel,hH (eN _)]
inductive CU(K:N1)(h:Nat)(vs:List V)(H:Hp)(Q:VK)(_E:XK):Prop|mk(r:Ru)(rv:V)(_:vs=[rv])(_:fi K H r rv)(_:r.hgt<=h)(_:h<=6)(_:∀(l:Addr)(us:List V)(H':Hp),am H H'->H l=none->H' l=some (.lst us)->i4 K H' r.subs us->Q (.ref l) H')
section
theorem jH(T:Txt K mg a):∀h:Nat,aQ P w K mg base dB (h+1) a.bY.x a.bY.d ["rule"] (CU K h)
 |0=>by
  refine T.bY.f.ok gY (λe H Q E h=>?_) (λX A outer s H e Q E hr h=>?_)
  ·obtain⟨r,Z,rfl,_⟩:=h;rfl
  ·obtain⟨r,Z,rfl,_,hh,_⟩:=h;have:=r.hgt_pos;lia|n+1=>by
  have ih:=jH T n;refine T.bY.f.ok gY (λe H Q E h=>?_) (λX A outer s H e Q E hr h=>?_)
  ·obtain⟨r,Z,rfl,_⟩:=h;rfl
  ·obtain⟨r,Z,rfl,hR,hh,h6,q⟩:=h;obtain⟨t,e,rfl,hT,v,_⟩:=hR.tup;refine⟨_,(af (bj 1 gY.nd (bu (ac (Y 0) O))) (af (aL (aD (nB K rfl) (dg K (Y 0) ae) (bK (ac aE (ac aE (ac aE O)))) (by with_unfolding_all rfl)) (ah (dJ k_ rfl (iB K rfl (gk (AB K rfl) (Y 0) (ix ae) iy)) (qF 2 gY.nd) (ah (aR (ii K rfl PySem.F.plainAttrs_list PySem.F.slot_list_extend PySem.F.type_list_extend vA (Y 1) (ac (bB ih hr rfl T.bY.m T.bY.f.kp T.bY.b .nil bq (ac (Y 2) O)) O)))))) aC) (ah (az (Y 1))))),?_⟩
   refine U rfl ⟨ls rfl,λl hl=>?_⟩;have s0:=aj (o:=.lst [.ref t]) (am.refl H) hl;have y:aJ H l (.lst [.ref t]) l=some (.lst [.ref t]):=ag
   try dsimp only
   generalize aJ H l (.lst [.ref t])=H0 at s0 y⊢;refine U rfl (rX (am.tseq s0 hT) (ak (k:=0) rfl) ⟨ls rfl,λt3 G=>?_⟩);have I:=aj (o:=.tup [.str "not",.str "both",.str "either"]) s0 G;have j:aJ H0 t3 (.tup [.str "not",.str "both",.str "either"]) l=some (.lst [.ref t]):=by rw[ao (aH y G)];exact y
   refine⟨t3,U rfl ⟨.inr (bd.of ag),rfl,rfl,U rfl ?_⟩⟩;show if mw (.str r.kind) [.str "not",.str "both",.str "either"]=true then _ else _
   rw[G9]
   try dsimp only
   generalize aJ H0 t3 (.tup [.str "not",.str "both",.str "either"])=R at I j⊢;cases hd:r.deep with
 |false=>
    refine bX (U rfl ?_);have hs:r.subs=[r]:=by cases r<;>first|rfl|cases hd
    exact q l [.ref t] R I hl j (by rw[hs];exact .cons (hR.kp (.of I)) .nil)|true=>
    obtain⟨hK,ap⟩:=v hd;refine bD ?_;refine U rfl (U rfl ?_);have hc:=r.cnt_lt;have as:2^r.hgt<=2^6:=y_ (by decide) (by lia);have aa:e.length=r.kids.length:=(Paired.length hK).symm;have J:∀(i:Nat)(k:Ru),r.kids[i]?=some k->k.hgt<=n:=λi k S=>GW (e_ S) hh;refine⟨t,U rfl ⟨am.tseq I hT,λz=>absurd z.1 (Hg _ _),λp hp=>?_⟩⟩;rw[E8];have s2:=aj (o:=.tup e) I hp;have L:aJ R p (.tup e) l=some (.lst [.ref t]):=by rw[ao (aH j hp)];exact j
    have B:aJ R p (.tup e) p=some (.tup e):=ag
    try dsimp only
    generalize aJ R p (.tup e)=H2 at s2 L B⊢;refine⟨p,rfl,⟨_,bd.of B⟩,He (xs:=e) (D:={nx:=Ks (Ik 1) {nx:=λ_ H'=>Q .non H',rt:=Q},rt:=Q}) (λi V H'=>am H H'/\H' p=some (.tup e)/\(∃C,H' l=some (.lst C)/\i4 K H' (r::((r.kids.take i).map Ru.subs).flatten) C)/\∃v2,V=[some (.ref t),some (.ref l),v2]) ⟨s2,B,⟨[.ref t],L,.cons (hR.kp (.of s2)) .nil⟩,_,rfl⟩ (λi V H' _ h=>bd.of h.2.1) ?_ ?_⟩
    ·rintro i x V H3 hx⟨W,u,⟨C,c,g⟩,v2,rfl⟩;obtain⟨k,S,ad⟩:=i4.get hK i x hx;refine aq (U rfl ⟨.inl ⟨rfl,_,aX.of c⟩,U rfl ⟨k,x,rfl,ad.kp (.of W),J i k S,by exact rm h6,λl' al H4 M ax an N=>?_⟩⟩);have e1:((r.kids.take (i+1)).map Ru.subs).flatten=((r.kids.take i).map Ru.subs).flatten++k.subs:=by rw[rr,S,gg,List.flatten_append];simp
     have n1:=Paired.length g;have n2:=Paired.length N;have n3:(((r.kids.take i).map Ru.subs).flatten).length+k.subs.length<=64:=by
      have e2:r.subs.length=1+((r.kids.map Ru.subs).flatten).length:=by rw[r.subs_kids,kl];lia
      have e3:((r.kids.map Ru.subs).flatten).length=(((r.kids.take (i+1)).map Ru.subs).flatten).length+(((r.kids.drop (i+1)).map Ru.subs).flatten).length:=by rw[<-ga,<-List.flatten_append,<-gg,r_]
      rw[e1,ga]at e3;unfold Ru.cnt at hc;lia
     rw[kl]at n1;refine⟨l,l',_,U rfl ⟨rfl,M _ _ c,an,by rw[g8];lia,?_⟩⟩;have kq:Kp H4 (aJ H4 l (.lst (C++al))):=.lst (M _ _ c);refine⟨bM (W.trans M) hl,?_,⟨_,ag,?_⟩,_,rfl⟩
     ·rw[ao (λz=>by rw[z,c]at u;cases u)];exact M _ _ u
     ·rw[e1,<-List.cons_append];exact i4.app ((g.kp (.of M)).kp kq) (N.kp kq)
    ·rintro V H3⟨W,u,⟨C,c,g⟩,v2,rfl⟩;refine U rfl (q l C H3 W hl c ?_);rw[r.subs_kids];rw[aa,hH (eN _)]at g;exact g
end
def JQ[DecidableEq g][BEq g][LawfulBEq g][DecidableEq h][BEq h][LawfulBEq h](f:g->h)(i:∀a b,f a=f b->a=b)(d:List g):dd (d.map f)=(dd d).map f:=by
 have gen:∀(d c:List g),(d.map f).foldl PyProof.Rows.step_dedup (c.map f)=(d.foldl PyProof.Rows.step_dedup c).map f:=by
  intro d
  induction d with|nil=>intro c;rfl|cons k r j=>
   intro c;rw[ku,th,th,<-j]
   congr 1
   unfold PyProof.Rows.step_dedup;have e:(c.map f).any (λy=>y==f k)=c.any (λy=>y==k):=by
    rw[List.any_map]
    congr 1
    funext y
    show(f y==f k)=(y==k)
    by_cases q:y=k
    ·rw[q,sm,sm]
    ·rw[beq_false_of_ne q,beq_false_of_ne (λz=>q (i _ _ z))]
   by_cases q:c.any (λy=>y==k)=true
   ·rw[gn (e.trans q),gn q]
   ·rw[ge (λz=>q (e.symm.trans z)),ge q,gg];rfl
 exact gen d []
def Ru.wset(r:Ru):List Str:=dd r.words
def Ru.wset_keys(r:Ru):dd (r.words.map (Sum.inr:Str->cu))=r.wset.map Sum.inr:=JQ Sum.inr (λ_ _ h=>o0 h) r.words
def Ru.wset_le(r:Ru):r.wset.length<=r.cnt:=by have h1:=qd r.words [];have h2:=r.words_le;unfold Ru.wset dd;simp at h1;lia
inductive FN(K:N1)(vs:List V)(H:Hp)(Q:VK)(_E:XK):Prop|mk(r:Ru)(rv:V)(_:vs=[rv])(_:fi K H r rv)(_:r.hgt<=6)(_:∀(l:Addr)(ss:N7)(H':Hp),am H H'->H l=none->H' l=some (.lst (ss.map V.str))->ss.Perm r.wset->ss.Pairwise mC->Q (.ref l) H')
section
def x8(T:Txt K mg a):aQ P w K mg base dB 8 a.jN.x a.jN.d ["rule"] (FN K):=by
 refine T.jN.ok xE λaa A outer s H vs Q E hr h=>?_
 ·obtain⟨r,rv,rfl,hR,hh,q⟩:=h;refine⟨_,(ah (az (au (wU (P:=P) (w:=w) rfl) (by rfl) T.yq L2.qT (ac (dL (uc (P:=P) (w:=w) K rfl rfl) (by rfl) T.D0 L2.ug (ac (rT ["rule"] ["inner"] [] [1] (ai nr) (cb 1) (eA K rfl (bB ((jH T 6).mono (by decide)) hr rfl T.bY.m T.bY.f.kp T.bY.b .nil bq (ac (Y 0) O))) (λcl C s₀ H₀ ex=>⟨(oI ["rule"] ["inner"] 1),(oG (aD (nB K rfl) (dg K (Y 1) ae) (bK (ac aE (ac aE O))) (by with_unfolding_all rfl))),(dg K (Y 1) ae)⟩)) O)) O)))),?_⟩
  refine U rfl ⟨r,rv,rfl,hR,hh,eN _,λl F H1 M hl u y=>?_⟩;have hc:=r.cnt_lt;have ad:2^r.hgt<=2^6:=y_ (by decide) (by omega);have G:F.length=r.subs.length:=(Paired.length y).symm;have al:r.subs.length<64:=by unfold Ru.cnt at hc;lia
  refine⟨l,rfl,⟨_,aX.of u⟩,λD N=>?_⟩;refine mx (K:=K) (a:=l) (xs:=F) (λi e H'=>e=((r.subs.take i).filterMap Ru.word1).map V.str/\am H1 H'/\H' D=some (.lst e)) ⟨by rw[z3];rfl,aj (am.refl _) N,ag⟩ (λi e H' _ h=>aX.of (h.2.1 _ _ u)) ?_ ?_
  ·rintro i v e B R⟨rfl,p,c⟩;have hi:i<F.length:=(d_.mp R).1;obtain⟨k,hk,I⟩:=i4.get y i v R;obtain⟨t,vs,rfl,S,_,hw⟩:=(I.kp (.of p)).tup;refine aq (U rfl (rX S (ak (k:=0) rfl) ⟨ls rfl,λW J=>?_⟩));have g:=aj (o:=.tup [.str "has",.str "least"]) (am.refl B) J;refine⟨W,U rfl ⟨.inr (bd.of ag),rfl,rfl,U rfl ?_⟩⟩;show if mw (.str k.kind) [.str "has",.str "least"]=true then _ else _
   rw[G8]
   try dsimp only
   generalize aJ B W (.tup [.str "has",.str "least"])=H3 at g⊢;have X:(r.subs.take (i+1)).filterMap Ru.word1=(r.subs.take i).filterMap Ru.word1++k.word1.toList:=by
    rw[rr,hk,Nq]
    congr 1
   have fl:((r.subs.take i).filterMap Ru.word1).length<=i:=j_ (List.length_filterMap_le _ _) (List.length_take_le _ _);cases j:k.word1 with|none=>refine bX (lf hi ⟨?_,p.trans g,g _ _ c⟩);rw[X,j];simp|some wd=>
    obtain⟨an,rfl⟩:=hw wd j;refine bD (U rfl (rX (am.tseq g S) (ak (k:=1) rfl) ⟨g _ _ c,?_,lf hi ⟨?_,bM (p.trans g) N,ag⟩⟩))
    ·rw[b_,g8];lia
    ·rw[X,j,gg];rfl
  ·rintro e B⟨rfl,p,c⟩;rw[G,hH (eN _),r.words_subs]at c;have wl:=r.words_le;have ap:=r.wset_le;have c:B D=some (.lst ((r.words.map (Sum.inr:Str->cu)).map kV)):=by rw[rx];exact c
   refine⟨D,r.words.map Sum.inr,rfl,aX.of c,by rw[b_];lia,λZ L=>?_⟩;rw[r.wset_keys];have g:=aj (o:=wk P w Z (r.wset.map Sum.inr)) (am.refl B) L;refine⟨Z,r.wset,rfl,ag,by lia,λq2 ss n hp hs=>?_⟩;have s4:=aj (o:=.lst (ss.map V.str)) g n;exact q q2 ss _ ((M.trans p).trans s4) (by cases z:H q2 with|none=>rfl|some o=>rw[((M.trans p).trans g) _ _ z]at n;cases n) ag hp hs
end
theorem DY[BEq c][LawfulBEq c]:∀{l m:List c},l.Nodup->(∀x∈l,x∈m)->l.length<=m.length
 |[],m,_,_=>j1 _|a::l,m,h,g=>by
  obtain⟨h1,h2⟩:=NW.mp h;have p:=List.perm_cons_erase (g a hF);have:=DY (m:=m.erase a) h2 λx b=>by
   rcases ot.mp (p.mem_iff.mp (g x (g_ _ b)))with rfl|q
   ·exact absurd b h1
   ·exact q
  have e:=p.length_eq;rw[kl]at e⊢;lia
theorem E7[DecidableEq d][BEq d][LawfulBEq d]:∀(f c:List d)(x:d),x∈f.foldl PyProof.Rows.step_dedup c↔x∈c\/x∈f
 |[],c,x=>by simp|k::r,c,x=>by
  rw[th,E7 r];unfold PyProof.Rows.step_dedup
  by_cases e:c.any (λy=>y==k)=true
  ·rw[gn e];obtain⟨y,b,q⟩:=Nc.mp e;have g:k∈c:=by rw[<-eq_of_beq q];exact b
   constructor
   ·rintro(h|h)
    ·exact .inl h
    ·exact .inr (g_ _ h)
   ·rintro(h|h)
    ·exact .inl h
    ·rcases ot.mp h with rfl|h
     ·exact .inl g
     ·exact .inr h
  ·rw[ge e];simp only[List.mem_append,List.mem_singleton,ot,or_assoc,m_,false_or]
def JP{c:Type}[DecidableEq c][BEq c][LawfulBEq c]{d:List c}{x:c}(h:x∈dd d):x∈d:=by
 rcases(E7 d [] x).mp h with h|h
 ·cases h
 ·exact h
theorem HV[DecidableEq d][BEq d][LawfulBEq d]:∀(f c:List d),c.Nodup->(f.foldl PyProof.Rows.step_dedup c).Nodup
 |[],c,h=>h|k::r,c,h=>by
  rw[th];refine HV r _ ?_;unfold PyProof.Rows.step_dedup
  by_cases e:c.any (λy=>y==k)=true
  ·rw[gn e];exact h
  ·rw[ge e,n7];refine⟨h,by simp,λa g b i=>?_⟩;rw[List.mem_singleton.mp i];rintro rfl;exact e (Nc.mpr ⟨a,g,sm a⟩)
inductive F4(K:N1)(n:Nat)(vs:List V)(H:Hp)(Q:VK)(_E:XK):Prop|mk(r:Ru)(rv:V)(ws:N7)(_:vs=[rv,.int (n:Nat)])(_:fi K H r rv)(_:r.hgt<=n)(_:jJ ws r)(_:(∀w∈ws,Wd w))(_:∀H',am H H'->Q (.bl true) H')
def Ev{a b n:Nat}(h:max a b+1<=n+1):a<=n/\b<=n:=by have h1:=Nk a b;have h2:=M7 a b;lia
section
theorem qH(T:Txt K mg a):∀n:Nat,aQ P w K mg base dB (n+3) a.cB.x a.cB.d ["thing","depth"] (F4 K n)
 |0=>by
  refine T.cB.f.ok lC (λz H Q E h=>?_) (λC A outer s H z Q E j h=>?_)
  ·obtain⟨r,D,e,rfl,_⟩:=h;rfl
  ·obtain⟨r,D,e,rfl,_,hh,_⟩:=h;have:=r.hgt_pos;lia|n+1=>by
  have F:=qH T n;refine T.cB.f.ok lC (λz H Q E h=>?_) (λC A outer s H z Q E j h=>?_)
  ·obtain⟨r,D,e,rfl,_⟩:=h;rfl
  ·obtain⟨r,D,e,rfl,R,hh,o,l,q⟩:=h;refine⟨_,(af (aL (PW.pt (fm (aD aT (Y 1) ae (aF _)) (fm (bV (aM K rfl (au (eW K rfl) (by rfl) T.bE L2.a9 (ac (Y 0) (ac (jm rfl T.eM L2.ce) O))) (λ_=>rfl))) (dI (aD aT (au (aG K rfl) (by rfl) T.bo L2.aK (ac (Y 0) O)) ae (aF _)))))) (ah (az dS)) aC) (af (bj 2 lC.nd (dg K (Y 0) ae)) (af (aL (aD aT (Y 2) aE (aF _)) (ah (az (bT aT (au (aG K rfl) (by rfl) T.bo L2.aK (ac (Y 0) O)) ae (aF _)))) aC) (af (aL (aD aT (Y 2) aE (aF _)) (ah (az (cr (bT aT (au (aG K rfl) (by rfl) T.bo L2.aK (ac (Y 0) O)) ae (aF _)) (dn (bB ((gH T).mono (by first|decide|exact NV _ _)) j rfl T.dZ.m T.dZ.f.kp T.dZ.b .nil bq (ac (dg K (Y 0) ae) O)))))) aC) (af (aL (aD aT (Y 2) aE (aF _)) (ah (az (cr (bT aT (au (aG K rfl) (by rfl) T.bo L2.aK (ac (Y 0) O)) ae (aF _)) (cr (bB ((gH T).mono (by first|decide|exact NV _ _)) j rfl T.dZ.m T.dZ.f.kp T.dZ.b .nil bq (ac (dg K (Y 0) ae) O)) (dn (bB ((oJ T).mono (by first|decide|exact NV _ _)) j rfl T.ff.m T.ff.f.kp T.ff.b .nil bq (ac (dg K (Y 0) ae) O))))))) aC) (af (aL (aD aT (Y 2) aE (aF _)) (ah (az (cr (bT aT (au (aG K rfl) (by rfl) T.bo L2.aK (ac (Y 0) O)) ae (aF _)) (dn (bB F j rfl T.cB.m T.cB.f.kp T.cB.b .nil bq (ac (dg K (Y 0) ae) (ac (aA fB (Y 1) ae) O))))))) aC) (af (aL (PW.pt (fm (aD aT (Y 2) aE (aF _)) (dI (aD aT (Y 2) aE (aF _))))) (ah (az (cr (bT aT (au (aG K rfl) (by rfl) T.bo L2.aK (ac (Y 0) O)) ae (aF _)) (cr (bB F j rfl T.cB.m T.cB.f.kp T.cB.b .nil bq (ac (dg K (Y 0) ae) (ac (aA fB (Y 1) ae) O))) (dn (bB F j rfl T.cB.m T.cB.f.kp T.cB.b .nil bq (ac (dg K (Y 0) ae) (ac (aA fB (Y 1) ae) O)))))))) aC) (ah (az dS))))))))),?_⟩
   have hd:((n+1:Nat):Int)-1=(n:Int):=by lia
   obtain⟨t,z,rfl,B,-⟩:=R.tup;refine U rfl ⟨rfl,U rfl (kj (λh=>absurd h (by exact i_ rfl)) (λG=>?_))⟩;refine U rfl ⟨_,"tuple",_,true,rfl,.inr ⟨t,U rfl ⟨B,rfl⟩⟩,fC (by decide+kernel),true,rfl,bX ?_⟩;refine U rfl ⟨_,U rfl ⟨.inr ⟨_,B,rfl⟩,rfl,U rfl (kj (λh=>absurd h (by rw[kl];exact i_ rfl)) (λI=>?_))⟩⟩;refine U rfl (rX B (ak (k:=0) rfl) ?_);refine aq ?_;clear B G I;cases R with
 |any h=>refine U rfl ⟨rfl,U rfl (b7 ?_)⟩;refine U rfl ⟨_,U rfl ⟨.inr ⟨_,h,rfl⟩,rfl,?_⟩⟩;exact kE (p:=V.int 1=V.int 1) rfl (q H (am.refl _))|has h=>cases o with|has hm=>refine U rfl ⟨rfl,U rfl (wn ?_)⟩;refine U rfl ⟨rfl,U rfl (b7 ?_)⟩;refine U rfl ⟨_,U rfl ⟨.inr ⟨_,h,rfl⟩,rfl,U rfl (bD ?_)⟩⟩;exact U rfl (rX h rfl ⟨V.str _,rfl,.inl (U rfl ⟨l _ hm,q⟩)⟩)
   |least h=>cases o with|least hm h1 h2=>(iterate 2 refine U rfl ⟨rfl,U rfl (wn ?_)⟩);refine U rfl ⟨rfl,U rfl (b7 ?_)⟩;refine U rfl ⟨_,U rfl ⟨.inr ⟨_,h,rfl⟩,rfl,U rfl (bD ?_)⟩⟩;refine U rfl (rX h rfl ⟨V.str _,rfl,.inl (U rfl ⟨l _ hm,λJ c=>(U rfl (bD ?_))⟩)⟩);exact⟨_,rfl,t,_,2,_,rfl,rfl,am.tseq c h,rfl,_,rfl,⟨h1,h2⟩,q J c⟩
   |not h h1=>cases o with|not u=>rename_i g i;have hh:g.hgt+1<=n+1:=hh;(iterate 3 refine U rfl ⟨rfl,U rfl (wn ?_)⟩);refine U rfl ⟨rfl,U rfl (b7 ?_)⟩;refine U rfl ⟨_,U rfl ⟨.inr ⟨_,h,rfl⟩,rfl,U rfl (bD ?_)⟩⟩;refine U rfl (rX h rfl (U rfl (r2 ?_)));exact⟨g,i,e,by show[i,V.int (((n+1:Nat):Int)-1)]=_;rw[hd],h1,by exact NI hh,u,l,q⟩
   |both h h1 h2=>cases o with|both u L=>rename_i g v i y;have hh:=Ev (show max g.hgt v.hgt+1<=n+1 from hh);(iterate 4 refine U rfl ⟨rfl,U rfl (wn ?_)⟩);refine U rfl ⟨rfl,U rfl (b7 ?_)⟩;refine U rfl ⟨_,U rfl ⟨.inr ⟨_,h,rfl⟩,rfl,U rfl (bD ?_)⟩⟩;refine U rfl (rX h rfl (U rfl (r2 ?_)));refine⟨g,i,e,by show[i,V.int (((n+1:Nat):Int)-1)]=_;rw[hd],h1,hh.1,u,l,λJ c=>(U rfl (bD ?_))⟩;refine U rfl (rX (am.tseq c h) rfl (U rfl (r2 ?_)));exact⟨v,y,e,by show[y,V.int (((n+1:Nat):Int)-1)]=_;rw[hd],h2.kp (.of c),hh.2,L,l,λM N=>q M (c.trans N)⟩
   |either h h1 h2=>cases o with|either u L=>rename_i g v i y;have hh:=Ev (show max g.hgt v.hgt+1<=n+1 from hh);(iterate 5 refine U rfl ⟨rfl,U rfl (wn ?_)⟩);refine U rfl ⟨rfl,U rfl (b7 ?_)⟩;refine U rfl ⟨_,U rfl ⟨.inr ⟨_,h,rfl⟩,rfl,U rfl (bD ?_)⟩⟩;refine U rfl (rX h rfl (U rfl (r2 ?_)));refine⟨g,i,e,by show[i,V.int (((n+1:Nat):Int)-1)]=_;rw[hd],h1,hh.1,u,l,λJ c=>(U rfl (bD ?_))⟩;refine U rfl (rX (am.tseq c h) rfl (U rfl (r2 ?_)));exact⟨v,y,e,by show[y,V.int (((n+1:Nat):Int)-1)]=_;rw[hd],h2.kp (.of c),hh.2,L,l,λM N=>q M (c.trans N)⟩
end
def jJ.mem(h:jJ c r):∀w∈r.words,w∈c:=by induction h with|any=>exactλw h=>(nomatch h)|has h=>intro w b;rw[List.mem_singleton.mp b];exact h|least h=>intro w b;rw[List.mem_singleton.mp b];exact h|not _ h=>exact h|both _ _ h g=>exactλw b=>(List.mem_append.mp b).elim (h w) (g w)|either _ _ h g=>exactλw b=>(List.mem_append.mp b).elim (h w) (g w)
def jJ.few{c:N7}{r:Ru}(h:jJ c r):r.wset.length<=c.length:=DY (HV r.words [] J_) λx b=>h.mem x (JP b)
inductive C8(K:N1)(vs:List V)(H:Hp)(Q:VK)(_E:XK):Prop|mk(r:Ru)(rv:V)(ws:N7)(_:vs=[rv])(_:fi K H r rv)(_:r.hgt<=6)(_:r.cnt<=30)(_:jJ ws r)(_:(∀w∈ws,Wd w))(_:ws.length<=3)(_:∀H',am H H'->Q (.bl true) H')
section
def zK(T:Txt K mg a):aQ P w K mg base dB 10 a.mn.x a.mn.d ["thing"] (C8 K):=by
 refine T.mn.ok zx λv A outer s H L Q E c h=>?_
 ·obtain⟨r,e,y,rfl,g,hh,hc,o,z,hl,q⟩:=h;refine⟨_,(af (aL (bV (aM K rfl (bB ((qH T 6).mono (by decide)) c rfl T.cB.m T.cB.f.kp T.cB.b .nil bq (ac (Y 0) (ac (cJ T.uf rfl) O))) (λ_=>rfl))) (ah (az dS)) aC) (ah (az (cr (bT jn (au (aG K rfl) (by rfl) T.bo L2.aK (ac (bB ((jH T 6).mono (by decide)) c rfl T.bY.m T.bY.f.kp T.bY.b .nil bq (ac (Y 0) O)) O)) (cJ T.wZ rfl) (aF _)) (dn (bT jn (au (aG K rfl) (by rfl) T.bo L2.aK (ac (pc T.jN (x8 T) c (ac (Y 0) O)) O)) (cJ T.wW rfl) (aF _))))))),?_⟩
  refine U rfl ⟨r,e,y,rfl,g,hh,o,z,λM i=>(U rfl (bX ?_))⟩;refine U rfl ⟨r,e,rfl,g.kp (.of i),hh,eN _,λl p N t B j k=>?_⟩;have C:p.length=r.subs.length:=(Paired.length k).symm;unfold Ru.cnt at hc;refine⟨_,p.length,rfl,.inl ⟨_,aX.of j,rfl⟩,_,U rfl ⟨rfl,U rfl (iZ (λ_=>?_) (λh=>absurd (by lia) h))⟩⟩;refine U rfl ⟨r,e,rfl,g.kp (.of (i.trans t)),hh,λR u D F G n I _=>?_⟩;have S:=o.few;have J:=I.length_eq;refine⟨_,u.length,rfl,.inl ⟨_,aX.of n,by simp⟩,_,U rfl ⟨rfl,?_⟩⟩;exact kE (show((u.length:Nat):Int)<=3 by lia) (q D ((i.trans t).trans F))
end
inductive F3(K:N1)(h:Nat)(vs:List V)(H:Hp)(Q:VK)(_E:XK):Prop|mk(r:Ru)(rv:V)(ms:List (Str×Int))(mv:V)(_:vs=[rv,mv])(_:fi K H r rv)(_:r.hgt<=h)(_:rH K H ms mv)(_:ms.length<=100)(_:∀H',am H H'->Q (.bl (r.sat ms)) H')
section
theorem yg(T:Txt K mg a):∀h:Nat,aQ P w K mg base dB (h+1) a.dU.x a.dU.d ["rule","marks"] (F3 K h)
 |0=>by
  refine T.dU.f.ok sG (λvs H Q E h=>?_) (λaa A outer s H vs Q E R h=>?_)
  ·obtain⟨r,rv,k,mv,rfl,_⟩:=h;rfl
  ·obtain⟨r,rv,k,mv,rfl,_,hh,_⟩:=h;have:=r.hgt_pos;lia|n+1=>by
  have W:=yg T n;refine T.dU.f.ok sG (λvs H Q E h=>?_) (λaa A outer s H vs Q E R h=>?_)
  ·obtain⟨r,rv,k,mv,rfl,_⟩:=h;rfl
  ·obtain⟨r,rv,k,mv,rfl,hR,hh,S,p,q⟩:=h;obtain⟨mt,l,rfl,I,X,Z⟩:=id S;refine⟨_,(af (bj 2 sG.nd (dg K (Y 0) ae)) (af (aL (aD aT (Y 2) aE (aF _)) (ah (az dS)) aC) (af (aL (aD aT (Y 2) aE (aF _)) (ah (az (au (qj K rfl rfl) (by rfl) T.D6 L2.uj (ac (rT pq ["mark"] [] [3] (ai rO) (cb 3) (iB K rfl (Y 1)) (λcl C s₀ H₀ ex=>⟨(oI pq ["mark"] 3),cF,(bT aT (dg K (Y 3) ae) (dg K (Y 0) ae) (aF _))⟩)) O)))) aC) (af (aL (aD aT (Y 2) aE (aF _)) (ah (az (au (qj K rfl rfl) (by rfl) T.D6 L2.uj (ac (rT pq ["mark"] [] [3] (ai rO) (cb 3) (iB K rfl (Y 1)) (λcl C s₀ H₀ ex=>⟨(oI pq ["mark"] 3),cF,(cr (bT aT (dg K (Y 3) ae) (dg K (Y 0) ae) (aF _)) (dn (bT DQ (dg K (Y 3) ae) (dg K (Y 0) ae) (aF _))))⟩)) O)))) aC) (af (aL (aD aT (Y 2) aE (aF _)) (ah (az (zH (bB W R rfl T.dU.m T.dU.f.kp T.dU.b .nil bq (ac (dg K (Y 0) ae) (ac (Y 1) O)))))) aC) (af (aL (aD aT (Y 2) aE (aF _)) (ah (az (cr (bB W R rfl T.dU.m T.dU.f.kp T.dU.b .nil bq (ac (dg K (Y 0) ae) (ac (Y 1) O))) (dn (bB W R rfl T.dU.m T.dU.f.kp T.dU.b .nil bq (ac (dg K (Y 0) ae) (ac (Y 1) O))))))) aC) (ah (az (KW (bB W R rfl T.dU.m T.dU.f.kp T.dU.b .nil bq (ac (dg K (Y 0) ae) (ac (Y 1) O))) (dn (bB W R rfl T.dU.m T.dU.f.kp T.dU.b .nil bq (ac (dg K (Y 0) ae) (ac (Y 1) O))))))))))))),?_⟩
   have c:∀{A B:Prop}{x y:Str},x≠y->B->if decide (V.str x=V.str y)=true then A else B:=λh b=>ED (λe=>absurd e h) (λ_=>b)
   have j:∀{A B:Prop}{x:Str},A->if decide (V.str x=V.str x)=true then A else B:=λa=>ED (λ_=>a) (λh=>absurd rfl h)
   cases hR with|any h=>refine U rfl (rX h rfl ?_);exact U rfl ⟨rfl,U rfl (j (q _ (am.refl _)))⟩|has h=>
    refine U rfl (rX h rfl ?_);refine U rfl ⟨rfl,U rfl (c (by decide+kernel) ?_)⟩;refine U rfl ⟨rfl,U rfl (j ?_)⟩;rename_i ra wd;refine U rfl ⟨mt,rfl,⟨_,I⟩,λD hD=>?_⟩;have t:∀g,am H (aJ H D (.lst g)):=λg=>aj (am.refl _) hD;refine ib (K:=K) (a:=mt) (xs:=l) (λi g H'=>g=((k.take i).map (Ll wd)).map V.bl/\H'=aJ H D (.lst g)) ⟨by rw[z3];rfl,rfl⟩ (λi g H' _ h=>h.2▸am.tseq (t _) I) ?_ ?_
    ·rintro i v g _ L⟨rfl,rfl⟩;have hi:i<l.length:=(d_.mp L).1;obtain⟨b,hb,hB⟩:=Z i (k[i]'(by lia)) (fx (by lia));rw[hb]at L;cases L;refine aq (jB (bD ?_));refine U rfl (rX (am.tseq (t _) hB) rfl (U rfl (rX (am.tseq (t _) h) rfl ⟨rfl,ag,?_,lf hi ⟨?_,?_⟩⟩)))
     ·rw[b_,b_,ji,g8];lia
     ·rw[sf (fx (by lia)),gg];rfl
     ·rw[gU]
    ·rintro g _⟨rfl,rfl⟩;refine⟨D,_,rfl,aX.of ag,?_⟩;rw[X,hH (eN _)];exact q _ (t _)|least h=>
    refine U rfl (rX h rfl ?_);(iterate 2 refine U rfl ⟨rfl,U rfl (c (by decide+kernel) ?_)⟩);refine U rfl ⟨rfl,U rfl (j ?_)⟩;rename_i ra wd F;refine U rfl ⟨mt,rfl,⟨_,I⟩,λD hD=>?_⟩;have t:∀g,am H (aJ H D (.lst g)):=λg=>aj (am.refl _) hD;refine ib (K:=K) (a:=mt) (xs:=l) (λi g H'=>g=((k.take i).map (gI wd F)).map V.bl/\H'=aJ H D (.lst g)) ⟨by rw[z3];rfl,rfl⟩ (λi g H' _ h=>h.2▸am.tseq (t _) I) ?_ ?_
    ·rintro i v g _ L⟨rfl,rfl⟩;have hi:i<l.length:=(d_.mp L).1;obtain⟨b,hb,hB⟩:=Z i (k[i]'(by lia)) (fx (by lia));rw[hb]at L;cases L;have fin:∀b,b=gI wd F (k[i]'(by lia))->aJ H D (.lst (((k.take i).map (gI wd F)).map V.bl)) D=some (.lst (((k.take i).map (gI wd F)).map V.bl))/\(((k.take i).map (gI wd F)).map V.bl).length<sizeLine/\∃m',m'<l.length-i/\m'=l.length-(i+1)/\i+1<=l.length/\((((k.take i).map (gI wd F)).map V.bl++[V.bl b]=((k.take (i+1)).map (gI wd F)).map V.bl)/\aJ (aJ H D (.lst (((k.take i).map (gI wd F)).map V.bl))) D (.lst (((k.take i).map (gI wd F)).map V.bl++[V.bl b]))=aJ H D (.lst (((k.take i).map (gI wd F)).map V.bl++[V.bl b]))):=λb eb=>by
      refine⟨ag,?_,lf hi ⟨?_,?_⟩⟩
      ·rw[b_,b_,ji,g8];lia
      ·rw[sf (fx (by lia)),gg,eb];rfl
      ·rw[gU]
     refine aq (jB (bD ?_));refine U rfl (rX (am.tseq (t _) hB) rfl (U rfl (rX (am.tseq (t _) h) rfl ⟨rfl,U rfl (ED (λe=>?_) (λe=>?_))⟩)))
     ·refine U rfl (rX (am.tseq (t _) hB) rfl (U rfl (rX (am.tseq (t _) h) rfl (r2 (fin _ ?_)))));unfold gI;rw[gn (by rw[e];exact il rfl)]
     ·refine fin _ ?_;unfold gI;rw[ge (by rw[iA (λz=>e (V.str.inj z))];exact hA)]
    ·rintro g _⟨rfl,rfl⟩;refine⟨D,_,rfl,aX.of ag,?_⟩;rw[X,hH (eN _)];exact q _ (t _)|not h h1=>rename_i ra G v;have hq:G.hgt+1<=n+1:=hh;refine U rfl (rX h rfl ?_);(iterate 3 refine U rfl ⟨rfl,U rfl (c (by decide+kernel) ?_)⟩);refine U rfl ⟨rfl,U rfl (j ?_)⟩;exact U rfl (rX h rfl (U rfl ⟨G,v,k,_,rfl,h1,by exact NI hh,S,p,λH' o=>(U rfl (q H' o))⟩))|both h h1 h2=>
    rename_i ra G M v u;have hq:max G.hgt M.hgt+1<=n+1:=hh;refine U rfl (rX h rfl ?_);(iterate 4 refine U rfl ⟨rfl,U rfl (c (by decide+kernel) ?_)⟩);refine U rfl ⟨rfl,U rfl (j ?_)⟩;refine U rfl (rX h rfl (U rfl ⟨G,v,k,_,rfl,h1,by lia,S,p,λH' o=>(U rfl ?_)⟩));have J:∀H',am H H'->Q (.bl (if G.sat k=true then M.sat k else false)) H':=q;refine wN (λe=>?_) (λe=>?_)
    ·rw[gn e]at J;exact U rfl (rX (am.tseq o h) rfl (U rfl ⟨M,u,k,_,rfl,h2.kp (.of o),by lia,S.kp (.of o),p,λH2 N=>J H2 (o.trans N)⟩))
    ·rw[ge (by rw[e];exact hA)]at J;exact J H' o|either h h1 h2=>
    rename_i ra G M v u;have hq:max G.hgt M.hgt+1<=n+1:=hh;refine U rfl (rX h rfl ?_);(iterate 5 refine U rfl ⟨rfl,U rfl (c (by decide+kernel) ?_)⟩);refine U rfl (rX h rfl (U rfl ⟨G,v,k,_,rfl,h1,by lia,S,p,λH' o=>(U rfl ?_)⟩));have J:∀H',am H H'->Q (.bl (if G.sat k=true then true else M.sat k)) H':=q;refine wN (λe=>?_) (λe=>?_)
    ·rw[gn e]at J;exact J H' o
    ·rw[ge (by rw[e];exact hA)]at J;exact U rfl (rX (am.tseq o h) rfl (U rfl ⟨M,u,k,_,rfl,h2.kp (.of o),by lia,S.kp (.of o),p,λH2 N=>J H2 (o.trans N)⟩))
end
inductive Gc(vs:List V)(H:Hp)(Q:VK)(_E:XK):Prop|mk(x:_)(_:vs=[.str x])(_:Wd x)(_:∀H',am H H'->Q .non H')
inductive Gh(K:N1)(vs:List V)(H:Hp)(Q:VK)(_E:XK):Prop|mk(p:Addr)(l:N7)(_:vs=[.ref p])(_:bd K H p (l.map V.str))(_:(∀w∈l,Wd w))(_:l.Nodup)(_:1<=l.length)(_:l.length<=4)(_:∀H',am H H'->Q .non H')
inductive Gd(K:N1)(vs:List V)(H:Hp)(Q:VK)(_E:XK):Prop|mk(r:Ru)(rv:V)(ws:N7)(_:vs=[rv])(_:fi K H r rv)(_:r.hgt<=6)(_:r.cnt<=30)(_:jJ ws r)(_:(∀w∈ws,Wd w))(_:ws.length<=3)(_:∀H',am H H'->Q .non H')
inductive Dm(vs:List V)(H:Hp)(Q:VK)(_E:XK):Prop|mk(x:_)(_:vs=[.str x])(_:Be x)(_:∀H',am H H'->Q .non H')
inductive Dk(K:N1)(vs:List V)(H:Hp)(Q:VK)(_E:XK):Prop|mk(v:V)(l:List (Str×Int))(_:vs=[v])(_:rH K H l v)(_:(∀m∈l,Wd m.1/\-dw<=m.2/\m.2<=dw))(_:(l.map Prod.fst).Nodup)(_:l.length<=8)(_:∀H',am H H'->Q .non H')
inductive Dn(vs:List V)(H:Hp)(Q:VK)(_E:XK):Prop|mk(z:_)(_:vs=[.int z])(_:0<=z)(_:Q .non H)
inductive BC(K:N1)(vs:List V)(H:Hp)(Q:VK)(_E:XK):Prop|mk(p:Addr)(l:Ob)(_:vs=[.ref p,.int (l.length:Nat)])(_:bd K H p (l.map V.int))(_:(∀i∈l,0<=i))(_:l.length<=100)(_:∀H',am H H'->Q .non H')
inductive Gg(K:N1)(vs:List V)(H:Hp)(Q:VK)(_E:XK):Prop|mk(z:Int)(p:Addr)(l:Ob)(_:vs=[.int z,.ref p,.int (l.length:Nat)])(_:(0<=z/\z<=1000))(_:bd K H p (l.map V.int))(_:(∀i∈l,1<=i/\i<=dw))(_:l.length<=100)(_:∀H',am H H'->Q .non H')
section
def mT(T:Txt K mg a):aQ P w K mg base dB 3 a.fN.x a.fN.d ["thing"] Gc:=by
 refine T.fN.ok uF λb A outer s H i Q E c h=>?_
 ·obtain⟨x,rfl,e,q⟩:=h;refine⟨_,(ah (aL (bV (aM K rfl (pc T.dZ (gH T) c (ac (Y 0) O)) (λ_=>rfl))) (ah cx) aC)),?_⟩;exact U rfl ⟨V.str x,rfl,.inl ⟨x,rfl,e,λf g=>(U rfl (bX (q f g)))⟩⟩
def uR(T:Txt K mg a):aQ P w K mg base dB 4 a.gN.x a.gN.d ["thing"] (Gh K):=by
 refine T.gN.ok uI λb A outer s H g Q E c h=>?_
 ·obtain⟨p,l,rfl,h1,h2,h3,h4,h5,q⟩:=h;refine⟨_,(ah (aL (bV (aM K rfl (pc T.kA (yh T) c (ac (Y 0) O)) (λ_=>rfl))) (ah cx) aC)),?_⟩;exact U rfl ⟨p,l,rfl,h1,h2,h3,h4,h5,λe f=>(U rfl (bX (q e f)))⟩
def uN(T:Txt K mg a):aQ P w K mg base dB 11 a.gK.x a.gK.d ["thing"] (Gd K):=by
 refine T.gK.ok uG λb A outer s H j Q E c h=>?_
 ·obtain⟨r,e,f,rfl,h1,h2,h3,h4,h5,h6,q⟩:=h;refine⟨_,(ah (aL (bV (aM K rfl (pc T.mn (zK T) c (ac (Y 0) O)) (λ_=>rfl))) (ah cx) aC)),?_⟩;exact U rfl ⟨r,e,f,rfl,h1,h2,h3,h4,h5,h6,λg i=>(U rfl (bX (q g i)))⟩
def lP(T:Txt K mg a):aQ P w K mg base dB 3 a.eU.x a.eU.d ["thing"] Dm:=by
 refine T.eU.ok sN λb A outer s H i Q E c h=>?_
 ·obtain⟨x,rfl,e,q⟩:=h;refine⟨_,(ah (aL (bV (aM K rfl (pc T.ko (yf T) c (ac (Y 0) O)) (λ_=>rfl))) (ah cx) aC)),?_⟩;exact U rfl ⟨x,rfl,e,λf g=>(U rfl (bX (q f g)))⟩
def tQ(T:Txt K mg a):aQ P w K mg base dB 5 a.fW.x a.fW.d ["thing"] (Dk K):=by
 refine T.fW.ok sK λb A outer s H g Q E c h=>?_
 ·obtain⟨v,l,rfl,h1,h2,h3,h4,q⟩:=h;refine⟨_,(ah (aL (bV (aM K rfl (pc T.iN (wE T) c (ac (Y 0) O)) (λ_=>rfl))) (ah cx) aC)),?_⟩;exact U rfl ⟨v,l,rfl,h1,h2,h3,h4,λe f=>(U rfl (bX (q e f)))⟩
def tS(T:Txt K mg a):aQ P w K mg base dB 3 a.fY.x a.fY.d ["thing"] Dn:=by
 refine T.fY.ok sO λb A outer s H e Q E c h=>?_
 ·obtain⟨z,rfl,h0,q⟩:=h;refine⟨_,(ah (aL (bV (aM K rfl (pc T.eS (fQ T) c (ac (Y 0) O)) (λ_=>rfl))) (ah cx) aC)),?_⟩;exact U rfl ⟨z,rfl,h0,U rfl (bX q)⟩
def rc(T:Txt K mg a):aQ P w K mg base dB 4 a.fg.x a.fg.d ["thing","many"] (BC K):=by
 refine T.fg.ok qV λb A outer s H g Q E c h=>?_
 ·obtain⟨p,l,rfl,h1,h2,h3,q⟩:=h;refine⟨_,(ah (aL (bV (aM K rfl (pc T.gP (uS T) c (ac (Y 0) (ac (Y 1) O))) (λ_=>rfl))) (ah cx) aC)),?_⟩;exact U rfl (U rfl ⟨p,l,rfl,h1,h2,h3,λe f=>(U rfl (bX (q e f)))⟩)
def pM(T:Txt K mg a):aQ P w K mg base dB 4 a.eK.x a.eK.d ["total","weights","many"] (Gg K):=by
 refine T.eK.ok pH λc A outer s H g Q E b h=>?_
 ·obtain⟨z,p,l,rfl,hz,h1,h2,h3,q⟩:=h;refine⟨_,(ah (aL (PW.pt (fm (bV (aM K rfl (pc T.km (yd T) b (ac (Y 0) O)) (λ_=>rfl))) (dI (bV (aM K rfl (pc T.f8 (tT T) b (ac (Y 1) (ac (Y 2) O))) (λ_=>rfl)))))) (ah cx) aC)),?_⟩;refine U rfl ⟨z,rfl,hz,U rfl (bX ?_)⟩;exact U rfl (U rfl ⟨p,l,rfl,h1,h2,h3,λe f=>(U rfl (bX (q e f)))⟩)
end
inductive Bz(vs:List V)(H:Hp)(Q:VK)(_E:XK):Prop|mk(z:Int)(_:vs=[.int z])(_:(2<=z/\z<=997))(_:(∀i:Nat,2+(i:Int)<z->z%(2+(i:Int))≠0))(_:∀H',am H H'->Q (.bl true) H')
inductive C7(vs:List V)(H:Hp)(Q:VK)(_E:XK):Prop|mk(z:_)(_:vs=[.int z])(_:(0<=z/\z<=dw))(_:Q (.bl true) H)
inductive Dl(vs:List V)(H:Hp)(Q:VK)(_E:XK):Prop|mk(z s:Int)(_:vs=[.int z,.int s])(_:(2<=z/\z<=997))(_:(∀i:Nat,2+(i:Int)<z->z%(2+(i:Int))≠0))(_:(0<=s/\s<=dw))(_:∀H',am H H'->Q .non H')
inductive IL(vs:List V)(H:Hp)(Q:VK)(_E:XK):Prop|mk(x:Str)(d:Addr)(kvs:List (cu×V))(_:vs=[.str x,.ref d])(_:Wd x)(_:H d=some (.dK kvs))(_:bw kvs (.inr x)=none)(_:∀H',am H H'->Q .non H')
inductive De(vs:List V)(H:Hp)(Q:VK)(_E:XK):Prop|mk(x:Str)(d:Addr)(kvs:List (cu×V))(_:vs=[.str x,.ref d])(_:Wd x)(_:H d=some (.dK kvs))(_:(bw kvs (.inr x)).isSome=true)(_:∀H',am H H'->Q .non H')
theorem mh:∀c:List Str,(c.map V.str).all m7=true|[]=>rfl|w::r=>by rw[ku,MA,mh r];rfl
def EH{w:Str}{c:N7}(h:w∈c):mw (.str w) (c.map V.str)=true:=by unfold mw;rw[Nc];exact⟨.str w,ig.mpr ⟨w,h,rfl⟩,by show(w==w)=true;exact sm w⟩
section
def ye(T:Txt K mg a):aQ P w K mg base dB 2 a.kn.x a.kn.d ["thing"] Bz:=by
 refine T.kn.ok xH λe A outer s H j Q E f h=>?_
 ·obtain⟨z,rfl,⟨h1,h2⟩,hd,q⟩:=h;refine⟨_,(af (aL (PW.pt (fm (bV (aM K rfl (pc T.gu (jp T) f (ac (Y 0) O)) (λ_=>rfl))) (dI (bV (xT jn jn (cJ T.u4 rfl) (Y 0) (cJ T.qk rfl)))))) (ah (az dS)) aC) (ah (az (au (iM K rfl rfl) (by rfl) T.vz L2.kz (ac (rT ["thing"] ["divisor"] [] [1] (ai nu) (cb 1) (vw rfl T.dA (ac ae (ac (Y 0) O))) (λcl C s₀ H₀ ex=>⟨(oI ["thing"] ["divisor"] 1),cF,(bT HH (aA aS (Y 0) (Y 1)) ae (aF _))⟩)) O))))),?_⟩
  refine U rfl ⟨z,rfl,U rfl (bX ?_)⟩;refine U rfl (r2 (U rfl ?_));refine iZ (λ_=>?_) (λh=>absurd h1 h);refine r2 (U rfl ?_);rw[il h2];refine bX ?_;refine U rfl ⟨_,U rfl ⟨⟨by decide,by decide,by lia,by lia⟩,λD g=>?_⟩⟩;refine d6 (K:=K) (lo:=2) (n:=(z-2).toNat) (λi b c=>b=(List.replicate i true).map V.bl/\c=aJ H D (.lst b)) ⟨rfl,rfl⟩ ?_ ?_
  ·rintro i b c hi⟨rfl,rfl⟩;refine aq (jB (bD (U rfl (U rfl (r2 ⟨(by show(0:Int)<_;first|decide|lia),rfl,?_⟩)))));refine⟨ag,jP i (by omega),lf hi ⟨?_,by rw[gU]⟩⟩;have hn:=hd i (by omega);rw[<-iO]
   congr 2
   simp[hn]
  ·rintro b c⟨rfl,rfl⟩;refine⟨D,_,rfl,aX.of ag,?_⟩;rw[jQ];exact q _ (aj (am.refl _) g)
def zJ(T:Txt K mg a):aQ P w K mg base dB 3 a.mm.x a.mm.d ["thing"] C7:=by
 refine T.mm.ok zw λb A outer s H e Q E c h=>?_
 ·obtain⟨z,rfl,⟨h1,h2⟩,q⟩:=h;refine⟨_,(ah (az (cr (pc T.eS (fQ T) c (ac (Y 0) O)) (dn (bT jn (Y 0) (aA tL ae ae) (aF _)))))),?_⟩;refine U rfl ⟨z,rfl,h1,U rfl (bD ?_)⟩
  walk_at "a"
  exact kE h2 q
def tR(T:Txt K mg a):aQ P w K mg base dB 4 a.fX.x a.fX.d ["prime","salt"] Dl:=by
 refine T.fX.ok sM λc A outer s H g Q E b h=>?_
 ·obtain⟨z,sa,rfl,h1,h2,h3,q⟩:=h;refine⟨_,(ah (aL (PW.pt (fm (bV (aM K rfl (pc T.kn (ye T) b (ac (Y 0) O)) (λ_=>rfl))) (dI (bV (aM K rfl (pc T.mm (zJ T) b (ac (Y 1) O)) (λ_=>rfl)))))) (ah cx) aC)),?_⟩;refine U rfl ⟨z,rfl,h1,h2,λe f=>(U rfl (bX ?_))⟩;exact U rfl ⟨sa,rfl,h3,U rfl (bX (q e f))⟩
def oK(T:Txt K mg a):aQ P w K mg base dB 4 a.gL.x a.gL.d ["thing","names"] IL:=by
 refine T.gL.ok wq λe A outer s H i Q E b h=>?_
 ·obtain⟨x,d,f,rfl,h1,h2,h3,q⟩:=h;refine⟨_,(af (aR (pc T.fN (mT T) b (ac (Y 0) O))) (ah (aL (nz (zI (cz b) (Y 0) (Y 1)) rfl) (ah cx) aC))),?_⟩
  refine U rfl ⟨x,rfl,h1,λg c=>?_⟩;refine U rfl (U rfl (rG none (by rw[<-h3];exact dR.k (k:=.inr x) (c _ _ h2)) (U rfl (bX (q g c)))))
def dz(T:Txt K mg a):aQ P w K mg base dB 4 a.bR.x a.bR.d ["thing","names"] De:=by
 refine T.bR.ok n6 λf A outer s H i Q E c h=>?_
 ·obtain⟨x,d,b,rfl,h1,h2,h3,q⟩:=h;refine⟨_,(af (aR (pc T.fN (mT T) c (ac (Y 0) O))) (ah (aL (nz (pL (cz c) (Y 0) (Y 1)) rfl) (ah cx) aC))),?_⟩
  refine U rfl ⟨x,rfl,h1,λg e=>?_⟩;refine U rfl (U rfl (rG (bw b (.inr x)) (dR.k (k:=.inr x) (e _ _ h2)) (U rfl ?_)));rw[h3];exact bX (q g e)
end
abbrev Pl:=bC×V×List Int
def fh(H:Hp)(tk:List eX)(m:List Pl):Prop:=Paired (λ(x:eX)(y:Pl)=>x.1=y.1/\x.2.1=y.2.1/\∃l,x.2.2=.ref l/\H l=some (.lst (y.2.2.map V.int))) tk m
structure eO(P:N6)(w:World)(K:N1)(C:Addr)(H:Hp)(t od td:Addr)(n:Nat)(ow:List (cu×V))(tk:List eX)(m:List Pl):Prop where
 ins:∃dx,H t=some (.ins C dx [("many",.int n),("owners",.ref od),("taken",.ref td)])own:H od=some (.dK ow)tak:H td=some (dM P w td tk)keys:dQ K H tk
 lsts:fh H tk m
def fh.same(e:am H H')(h:fh H tk m):fh H' tk m:=Paired.mapP h λ_ _ h=>⟨h.1,h.2.1,h.2.2.imp λ_ q=>⟨q.1,e _ _ q.2⟩⟩
def eF(e:Kp H H')(h:cS K H k v):cS K H' k v:=by match k,h with|.inl _,h=>exact h|.inr [],h=>exact h|.inr (_::_),h=>obtain⟨b,h1,h2⟩:=h;exact⟨b,h1,e.tq h2⟩
def nG(e:am H H')(h:cS K H k v):cS K H' k v:=by exact eF (.of e) h
theorem eO.same(e:am H H')(h:eO P w K C H t c d n ow tk m):eO P w K C H' t c d n ow tk m:=⟨let⟨dx,i⟩:=h.ins;⟨dx,e _ _ i⟩,e _ _ h.own,e _ _ h.tak,λx b=>nG e (h.keys x b),h.lsts.same e⟩
def fh.val(h:fh H tk m)(k:bC):(∃l c,eE tk k=some (.ref l)/\eE m k=some c/\H l=some (.lst (c.map V.int)))\/(eE tk k=none/\eE m k=none):=by induction h with|nil=>exact .inr ⟨rfl,rfl⟩|@cons x y _ _ h _ b=>
  unfold eE at b⊢;rw[o8,o8,<-h.1]
  by_cases e:x.1=k
  ·rw[il e];exact .inl (h.2.2.imp λ_ q=>⟨y.2.2,ri some q.1,rfl,q.2⟩)
  ·rw[iA e];exact b
def bA(m:List Pl)(k:bC):List Int:=(eE m k).getD []
def gw(n:Nat)(ow:List (cu×V)):List Int:=((List.range n).filter λ(i:Nat)=>(bw ow (.inl (i:Int))).isNone).map λ(i:Nat)=>(i:Int)
inductive IF(P:N6)(w:World)(K:N1)(C:Addr)(vs:List V)(H:Hp)(Q:VK)(_E:XK):Prop|mk(t dx:Addr)(n:Nat)(_:vs=[.ref t,.int n])(_:H t=some (.ins C dx []))(_:H dx=some (.own t))(_:∀(od td:Addr)H',H od=none->H td=none->(∀b o,H b=some o->b≠t->H' b=some o)->eO P w K C H' t od td n [] [] []->Q .non H')
inductive Bw(P:N6)(w:World)(K:N1)(C:Addr)(vs:List V)(H:Hp)(Q:VK)(_E:XK):Prop|mk(t od td:Addr)(n:Nat)(ow:List (cu×V))(tk:List eX)(m:List Pl)(p:Int)(_:vs=[.ref t,.int p])(_:eO P w K C H t od td n ow tk m)(_:Q ((bw ow (.inl p)).getD .non) H)
inductive zr(P:N6)(w:World)(K:N1)(C:Addr)(vs:List V)(H:Hp)(Q:VK)(_E:XK):Prop|mk(t od td:Addr)(n:Nat)(ow:List (cu×V))(tk:List eX)(m:List Pl)(k:bC)(kv:V)(_:vs=[.ref t,kv])(_:eO P w K C H t od td n ow tk m)(_:cS K H k kv)(_:∀(l:Addr)H',am H H'->H l=none->H' l=some (.lst ((bA m k).map V.int))->Q (.ref l) H')
inductive II(P:N6)(w:World)(K:N1)(C:Addr)(vs:List V)(H:Hp)(Q:VK)(_E:XK):Prop|mk(t od td:Addr)(n:Nat)(ow:List (cu×V))(tk:List eX)(m:List Pl)(_:vs=[.ref t])(_:eO P w K C H t od td n ow tk m)(_:n<=1000)(_:∀(l:Addr)H',am H H'->H l=none->H' l=some (.lst ((gw n ow).map V.int))->Q (.ref l) H')
section
def rf(T:Txt K mg a):aQ P w K mg base dB 1 a.ee.x a.ee.d ["self","many"] (IF P w K a.bS):=by
 refine T.ee.ok qX λF A outer s H L Q E M h=>?_
 ·obtain⟨t,dx,n,rfl,G,N,q⟩:=h;refine⟨_,(af (cG K rfl (Y 0) (Y 1)) (af (cG K rfl (Y 0) kd) (ah (cG K rfl (Y 0) (DL (P:=P) (w:=w)))))),?_⟩
  refine U rfl (U rfl ⟨t,_,dx,U rfl ⟨G,T.bp,T.mY,by decide,?_⟩⟩);have v:gj "many" (V.int n) []=([("many",V.int n)]:List (Str×V)):=rfl;rw[v];have i:aJ H t (.ins a.bS dx [("many",V.int n)]) t=some (.ins a.bS dx [("many",V.int n)]):=ag;have f1:∀b o,H b=some o->b≠t->aJ H t (.ins a.bS dx [("many",V.int n)]) b=some o:=λb o e j=>by rw[ao j];exact e
  generalize aJ H t (.ins a.bS dx [("many",V.int n)])=u at i f1⊢;refineλc g=>(U rfl ⟨t,_,dx,U rfl ⟨by rw[ao (aH i g)];exact i,T.bp,T.eC,by simp,?_⟩⟩);have y:gj "owners" (V.ref c) [("many",V.int n)]=([("many",V.int n),("owners",V.ref c)]:List (Str×V)):=rfl;rw[y];have B:c≠t:=λz=>by rw[z,i]at g;cases g
  have k:aJ (aJ u c (.dK [])) t (.ins a.bS dx [("many",V.int n),("owners",V.ref c)]) t=some (.ins a.bS dx [("many",V.int n),("owners",V.ref c)]):=ag;have m:aJ (aJ u c (.dK [])) t (.ins a.bS dx [("many",V.int n),("owners",V.ref c)]) c=some (.dK []):=by rw[ao B];exact ag
  have f2:∀b o,H b=some o->b≠t->aJ (aJ u c (.dK [])) t (.ins a.bS dx [("many",V.int n),("owners",V.ref c)]) b=some o:=λb o e j=>by rw[ao j,ao (λz=>by rw[<-z,f1 b o e j]at g;cases g)];exact f1 b o e j
  generalize aJ (aJ u c (.dK [])) t (.ins a.bS dx [("many",V.int n),("owners",V.ref c)])=O at k m f2⊢;refineλl f=>(U rfl ⟨t,_,dx,U rfl ⟨by rw[ao (aH k f)];exact k,T.bp,T.gr,by simp,?_⟩⟩);have C:gj "taken" (V.ref l) [("many",V.int n),("owners",V.ref c)]=([("many",V.int n),("owners",V.ref c),("taken",V.ref l)]:List (Str×V)):=rfl;rw[C];have D:l≠t:=λz=>by rw[z,k]at f;cases f
  have I:c≠l:=λz=>by rw[<-z,m]at f;cases f
  have p:H c=none:=by cases z:H c with|none=>rfl|some o=>rw[f1 c o z B]at g;cases g
  have r:H l=none:=by cases z:H l with|none=>rfl|some o=>rw[f2 l o z D]at f;cases f
  refine q c l _ p r (λb o e j=>?_) ⟨⟨dx,ag⟩,by rw[ao B,ao I];exact m,by rw[ao D];exact ag,λx J=>(by cases J),.nil⟩;rw[ao j,ao (λz=>by rw[<-z,f2 b o e j]at f;cases f)];exact f2 b o e j
def dX(T:Txt K mg a):aQ P w K mg base dB 1 a.bg.x a.bg.d ["self","owner"] (zr P w K a.bS):=by
 refine T.bg.ok nj λv A outer s H F Q E y h=>?_
 ·obtain⟨t,G,z,n,ow,tk,m,k,I,rfl,i,B,q⟩:=h;refine⟨_,(ah (az (dL (Ap K rfl) (by rfl) T.D3 L2.vT (ac (DK (P:=P) (w:=w) K rfl (cz y) (aI K rfl (Y 0)) (Y 1) (bu O) ⟨rfl,rfl,rfl,rfl⟩) O)))),?_⟩;obtain⟨dx,C⟩:=i.ins;refine U rfl ⟨t,_,dx,_,U rfl ⟨C,T.bp,T.gr,rfl,z,tk,rfl,i.tak,U rfl ⟨ls rfl,λg j=>?_⟩⟩⟩;have e:=aj (o:=.lst []) (am.refl H) j;have c:aJ H g (.lst []) g=some (.lst []):=ag;generalize aJ H g (.lst [])=J at e c⊢;have f:=i.same e;refine⟨tk,k,f.tak,f.keys,nG e B,?_⟩;rcases f.lsts.val k with⟨l,L,p,r,D⟩|⟨p,r⟩
  ·rw[p];refine⟨l,U rfl ⟨.inl (aX.of D),λu b=>q u _ (aj e b) (e.free b) ?_⟩⟩;unfold bA;rw[r];exact ag
  ·rw[p];refine⟨g,U rfl ⟨.inl (aX.of c),λu b=>q u _ (aj e b) (e.free b) ?_⟩⟩;unfold bA;rw[r];exact ag
def mV(T:Txt K mg a):aQ P w K mg base dB 1 a.d9.x a.d9.d ["self"] (II P w K a.bS):=by
 refine T.d9.ok uK λp A outer s H y Q E r h=>?_
 ·obtain⟨t,z,B,n,ow,tk,m,rfl,j,hn,q⟩:=h;refine⟨_,(ah (az (rT ["self"] ["place"] [] [1] (ai kJ) (cb 1) (cC rfl T.dA (ac (aI K rfl (Y 0)) O)) (λcl C s₀ H₀ ex=>⟨(oI ["self"] ["place"] 1),(oG (nz (pL (cz r) (Y 1) (aI K rfl (Y 0))) rfl)),(Y 1)⟩)))),?_⟩
  obtain⟨dx,l⟩:=j.ins;refine U rfl ⟨t,_,dx,_,U rfl ⟨l,T.bp,T.mY,rfl,(n:Int),rfl,by exact hY _,by lia,λD o=>?_⟩⟩;have g:∀b,am H (aJ H D (.lst b)):=λb=>aj (am.refl _) o;refine d6 (K:=K) (lo:=0) (n:=(n:Int).toNat) (λi b H'=>b=(gw i ow).map V.int/\H'=aJ H D (.lst b)) ⟨rfl,rfl⟩ ?_ ?_
  ·rintro i b _ hi⟨rfl,rfl⟩;have u:((gw i ow).map V.int).length<=i:=by unfold gw;rw[b_,b_];exact j_ (pw _ _) (by rw[md];exact eN _)
   have c:gw (i+1) ow=gw i ow++if(bw ow (.inl (i:Int))).isNone=true then[(i:Int)]else[]:=by
    unfold gw;rw[s_,E_,gg]
    congr 1
    by_cases e:(bw ow (.inl (i:Int))).isNone=true
    ·simp[e]
    ·simp[e]
   rw[show(0:Int)+(i:Int)=((i:Nat):Int)by lia];refine aq (U rfl (U rfl ⟨t,_,dx,_,U rfl ⟨g _ _ _ l,T.bp,T.eC,rfl,rG _ (dR.k (k:=.inl (i:Int)) (g _ _ _ j.own)) (U rfl ?_)⟩⟩));have f:i<(n:Int).toNat:=hi;cases e:bw ow (.inl (i:Int))with|none=>refine bD (U rfl ⟨ag,by rw[g8];lia,lf f ⟨?_,by rw[gU]⟩⟩);rw[c,e,gg];rfl|some v=>refine bX (lf f ⟨?_,rfl⟩);rw[c,e,gg];exact(qr _).symm
  ·rintro b _⟨rfl,rfl⟩;have e:(n:Int).toNat=n:=by exact rfl
   rw[e];exact q D _ (g _) o ag
end
def Fa(c:List V)(h:0<=i):uZ c (some i) none=c.drop i.toNat:=by
 show(c.drop (if i<0 then(i+(c.length:Int)).toNat else min i.toNat c.length)).take (c.length-(if i<0 then(i+(c.length:Int)).toNat else min i.toNat c.length))=c.drop i.toNat;rw[ge (by lia)];rcases Nat.le_total i.toNat c.length with b|b
 ·rw[Nat.min_eq_left b,hH (by rw[Mx];exact eN _)]
 ·rw[Nat.min_eq_right b,List.drop_eq_nil_of_le (eN _),List.drop_eq_nil_of_le b,List.take_nil]
def Am(c:List V)(h:0<=i):uZ c none (some i)=c.take i.toNat:=by
 show(c.drop 0).take ((if i<0 then(i+(c.length:Int)).toNat else min i.toNat c.length)-0)=c.take i.toNat;rw[ge (by lia),List.drop_zero,Nat.sub_zero];rcases Nat.le_total i.toNat c.length with b|b
 ·rw[Nat.min_eq_left b]
 ·rw[Nat.min_eq_right b,hH (eN _),hH b]
def Bi(c:List (cu×V))(k j:cu):bw (dO c k) j=if j=k then none else bw c j:=by induction c with|nil=>split<;>rfl|cons p r f=>
  by_cases e:p.1=k
  ·rw[vN e,f]
   by_cases b:j=k
   ·rw[gn b,gn b]
   ·rw[ge b,ge b,bP (λz=>b (z.symm.trans e))]
  ·rw[vO e]
   by_cases d:p.1=j
   ·rw[cI d,ge (λz=>e (d.trans z)),cI d]
   ·rw[bP d,f,bP d]
def rD(ow:List (cu×V))(c:Ob):List (cu×V):=c.foldl (λo p=>dO o (.inl p)) ow
def pB(c:Ob):∀(ow:List (cu×V))(j:Int),bw (rD ow c) (.inl j)=if j∈c then none else bw ow (.inl j):=by induction c with|nil=>intro ow j;rw[ge (by simp)];rfl|cons p r b=>
  intro ow j;show bw (rD (dO ow (.inl p)) r) (.inl j)=_;rw[b,Bi]
  by_cases h1:j∈r
  ·rw[gn h1,gn (g_ _ h1)]
  ·rw[ge h1]
   by_cases h2:j=p
   ·rw[gn (by rw[h2]),gn (by rw[h2];exact hF)]
   ·rw[ge (λz=>h2 (NS z)),ge (λz=>(ot.mp z).elim h2 h1)]
def l7(c d:Addr)(H H':Hp):Prop:=∀b o,H b=some o->b≠c->b≠d->H' b=some o
def l7.of(h:am H H'):l7 c d H H':=λb o e _ _=>h b o e
def l7.trans(a:l7 d e H f)(b:l7 d e f g):l7 d e H g:=λc o h h1 h2=>b c o (a c o h h1 h2) h1 h2
def l7.tp(h:l7 c d H H')(h1:H c=some (.dK f))(h2:H d=some (.ext φ))(e:H b=some (.tup g)):H' b=some (.tup g):=h b _ e (λz=>by rw[z,h1]at e;cases e) (λz=>by rw[z,h2]at e;cases e)
def eJ(h:l7 c d H H')(h1:H c=some (.dK f))(h2:H d=some (.ext φ))(g:cS K H k v):cS K H' k v:=by exact eF ⟨λu i e=>h.tp h1 h2 e,λu o⟨b,e⟩=>⟨b,h u _ e (λz=>by rw[z,h1]at e;cases e) (λz=>by rw[z,h2]at e;cases e)⟩⟩ g
def fh.off(h:l7 c d H H')(h1:H c=some (.dK f))(h2:H d=some (.ext φ))(t:fh H tk m):fh H' tk m:=Paired.mapP t λ_ _ q=>⟨q.1,q.2.1,q.2.2.imp λ_ e=>⟨e.1,h _ _ e.2 (λz=>by rw[z,h1]at e;cases e.2) (λz=>by rw[z,h2]at e;cases e.2)⟩⟩
def fh.put(hl:H l=some (.lst (d.map V.int))):∀{tk:List eX}{m:List Pl},fh H tk m->fh H (cX tk k i (.ref l)) (cX m k i d):=by
 intro tk m h;have b:(eE tk k).isSome=(eE m k).isSome:=by rcases h.val k with⟨l,d,f,g,_⟩|⟨f,g⟩<;>rw[f,g]<;>rfl
 unfold cX;rw[b]
 split
 ·rename_i hc;clear b hc
  induction h with|nil=>exact .nil|@cons x y j n r t c=>
   refine .cons ?_ c;dsimp only;rw[<-r.1]
   by_cases e:x.1=k
   ·rw[gn e,gn e];exact⟨rfl,r.2.1,l,rfl,hl⟩
   ·rw[ge e,ge e];exact r
 ·rename_i hc;clear b hc
  induction h with|nil=>exact .cons ⟨rfl,rfl,l,rfl,hl⟩ .nil|cons r t c=>exact .cons r c
def ft(H:Hp)(tk c:List eX):Prop:=∀x∈c,(∃y∈tk,y.2.2=x.2.2)\/∃l,x.2.2=.ref l/\H l=none
def ft.put(hl:H l=none):ft H tk (cX tk k d (.ref l)):=by
 intro x b;unfold cX at b
 split at b
 ·obtain⟨y,c,rfl⟩:=ig.mp b
  split
  ·exact .inr ⟨l,rfl,hl⟩
  ·exact .inl ⟨y,c,rfl⟩
 ·rcases List.mem_append.mp b with b|b
  ·exact .inl ⟨x,b,rfl⟩
  ·rw[List.mem_singleton.mp b];exact .inr ⟨l,rfl,hl⟩
def oS(h:l7 c d H H')(h1:H' c≠none)(h2:H' d≠none)(e:H' b=none):H b=none:=by cases z:H b with|none=>rfl|some o=>have:=h b o z (λq=>h1 (by rw[<-q];exact e)) (λq=>h2 (by rw[<-q];exact e));rw[e]at this;cases this
inductive IH(P:N6)(w:World)(K:N1)(C:Addr)(vs:List V)(H:Hp)(Q:VK)(_E:XK):Prop|mk(t od td:Addr)(n:Nat)(ow:List (cu×V))(tk:List eX)(m:List Pl)(k:bC)(kv:V)(num:Int)(_:vs=[.ref t,kv,.int num])(_:eO P w K C H t od td n ow tk m)(_:cS K H k kv)(_:0<=num)(_:tk.length<100000)(_:(∀p∈(bA m k).drop num.toNat,(bw ow (.inl p)).isSome=true))(_:(bA m k).Nodup)(_:∀(l:Addr)(tk':List eX)H',l7 od td H H'->H l=none->H' l=some (.lst (((bA m k).drop num.toNat).reverse.map V.int))->tk'.length<=tk.length+1->ft H tk tk'->eO P w K C H' t od td n (rD ow ((bA m k).drop num.toNat).reverse) tk' (cX m k kv ((bA m k).take num.toNat))->Q (.ref l) H')
def yz(c:List (bC×d×e))(k:bC)(b:d)(v:e):(cX c k b v).length<=c.length+1:=by
 unfold cX
 split
 ·rw[b_];exact ov _
 ·rw[ga];simp
def dQ.put(h:dQ K H tk)(d:cS K H k e):dQ K H (cX tk k e v):=by
 unfold cX
 split
 ·intro x b;obtain⟨y,c,rfl⟩:=ig.mp b
  split
  ·exact h y c
  ·exact h y c
 ·intro x b;rcases List.mem_append.mp b with b|b
  ·exact h x b
  ·rw[List.mem_singleton.mp b];exact d
section
def nC(T:Txt K mg a):aQ P w K mg base dB 2 a.cO.x a.cO.d ["self","owner","number"] (IH P w K a.bS):=by
 refine T.cO.ok dW λbn A outer s H vs Q E hr h=>?_
 ·obtain⟨t,M,u,n,ow,tk,m,k,kv,c,rfl,g,hk,N,bt,R,an,q⟩:=h;refine⟨_,(af (bj 3 dW.nd (bh (Y 0) T.bp T.bg.m ((dX (P:=P) (w:=w) T).mono (by decide)) hr T.bg.b .nil bq (ac (Y 1) O))) (af (bj 4 dW.nd (zG K rfl rfl (by rfl) T.D3 (by rfl) T.zQ (gk (sy K rfl) (Y 3) (ix (Y 2)) iy))) (af (dJ k_ rfl (eA K rfl (Y 4)) (qF 5 dW.nd) (ah (aR (xX (aI K rfl (Y 0)) (Y 5) ⟨rfl,rfl,rfl,rfl⟩)))) (af (kM (gk (sy K rfl) (Y 3) iy (ix (Y 2))) (kN (aI K rfl (Y 0)) (Y 1) (Dx (P:=P) (w:=w) K rfl (cz hr)))) (ah (az (Y 4))))))),?_⟩
  obtain⟨dx,hI⟩:=g.ins;refine lj hI rfl rfl (U rfl ⟨t,M,u,n,ow,tk,m,k,kv,rfl,g,hk,λlp H1 s1 bx I=>aq ?_⟩);have bz:=g.same s1;generalize bA m k=C at R an q I⊢;refine U rfl (U rfl ⟨c,rfl,lp,U rfl ⟨aX.of I,λl2 ap=>?_⟩⟩);rw[Fa _ N,<-List.map_drop];have s2:=aj (o:=.lst ((C.drop c.toNat).map V.int)) s1 ap;have S:aJ H1 l2 (.lst ((C.drop c.toNat).map V.int)) l2=some (.lst ((C.drop c.toNat).map V.int)):=ag;have D:aJ H1 l2 (.lst ((C.drop c.toNat).map V.int)) lp=some (.lst (C.map V.int)):=by rw[ao (aH I ap)];exact I
  generalize aJ H1 l2 (.lst ((C.drop c.toNat).map V.int))=H2 at s2 S D⊢;refine⟨l2,U rfl ⟨aX.of S,λW ad=>aq ?_⟩⟩;rw[<-List.map_reverse];generalize as:(C.drop c.toNat).reverse=bk at q⊢;have s3:=aj (o:=.lst (bk.map V.int)) s2 ad;have l:aJ H2 W (.lst (bk.map V.int)) W=some (.lst (bk.map V.int)):=ag;have F:aJ H2 W (.lst (bk.map V.int)) lp=some (.lst (C.map V.int)):=by rw[ao (aH D ad)];exact D
  generalize aJ H2 W (.lst (bk.map V.int))=H3 at s3 l F⊢;have r:=g.same s3;obtain⟨al,J⟩:=r.ins;have a5:H W=none:=s2.free ad;have a6:bk.Nodup:=by rw[<-as];exact(List.reverse_perm _).nodup_iff.mpr ((List.drop_sublist _ _).nodup an)
  have a7:∀p∈bk,(bw ow (.inl p)).isSome=true:=λp X=>R p (by rw[<-as]at X;exact Mw.mp X);have ne:∀{b:Addr}{o:HO},H3 b=some o->(∀a8,o≠.dK a8)->(∀φ,o≠.ext φ)->b≠M/\b≠u:=λe h1 h2=>⟨λz=>by rw[z,r.own]at e;cases e;exact h1 _ rfl,λz=>by rw[z,r.tak]at e;cases e;exact h2 _ rfl⟩;have G:=ne l (λ_ z=>nomatch z) (λ_ z=>nomatch z);have ax:=ne F (λ_ z=>nomatch z) (λ_ z=>nomatch z);have nt:=ne J (λ_ z=>nomatch z) (λ_ z=>nomatch z);have nod:u≠M:=λz=>by have e:=r.tak;rw[z,r.own]at e;cases e
  refine U rfl ⟨W,rfl,⟨_,aX.of l⟩,?_⟩;refine kx (xs:=bk.map V.int) (λi σ H'=>l7 M u H3 H'/\H' M=some (.dK (rD ow (bk.take i)))/\H' u=some (dM P w u tk)/\∃v5,σ=[some (.ref t),some kv,some (.int c),some (.ref lp),some (.ref W),v5]) ⟨.of (am.refl _),r.own,r.tak,_,rfl⟩ (λi σ H' _ h=>aX.of (h.1 _ _ l G.1 G.2)) ?_ ?_
  ·rintro i x σ H4 Z⟨L,f,y,v5,rfl⟩;have hi:i<bk.length:=by simpa using(d_.mp Z).1
   have X:bk[i]?=some bk[i]:=fx hi;rw[f_,X]at Z;generalize bk[i]=p at Z X;cases Z;have ba:p∉bk.take i:=λz=>by
    obtain⟨j,hj⟩:=hQ.mp z;have bb:j<i:=by have:=(d_.mp hj).1;rw[ji]at this;lia
    rw[MZ bb]at hj;have:=(K_ (d_.mp hj).1 a6).mp (hj.trans X.symm);lia
   obtain⟨v,hv⟩:=D_.mp (a7 p (e_ X));have bc:bw (rD ow (bk.take i)) (.inl p)=some v:=by rw[pB,ge ba];exact hv
   have hg:rD ow (bk.take (i+1))=dO (rD ow (bk.take i)) (.inl p):=by unfold rD;rw[rr,X,u6];rfl
   refine aq (U rfl ⟨t,_,al,_,U rfl ⟨L _ _ J nt.1 nt.2,T.bp,T.eC,rfl,M,rfl,.inl ⟨_,.inl f⟩,U rfl ⟨_,.inl p,v,f,rfl,bc,?_⟩⟩⟩);refine⟨λb o e h1 h2=>by rw[ao h1];exact L b o e h1 h2,by rw[hg];exact ag,by rw[ao nod];exact y,_,rfl⟩
  ·rintro σ H4⟨L,f,y,v5,rfl⟩;rw[b_,hH (eN _)]at f;have ay:=L _ _ F ax.1 ax.2;refine U rfl (U rfl ⟨c,rfl,lp,U rfl ⟨aX.of ay,λl5 a0=>?_⟩⟩);rw[Am _ N,<-NA];have s5:=aj (o:=.lst ((C.take c.toNat).map V.int)) (am.refl H4) a0;have B:aJ H4 l5 (.lst ((C.take c.toNat).map V.int)) l5=some (.lst ((C.take c.toNat).map V.int)):=ag;generalize aJ H4 l5 (.lst ((C.take c.toNat).map V.int))=H5 at s5 B⊢;have o5:l7 M u H H5:=(l7.of s3).trans (L.trans (.of s5));have aa:=s5 _ _ y;have bi:=eJ o5 g.own g.tak hk;have a2:dQ K H5 tk:=λx Z=>eJ o5 g.own g.tak (g.keys x Z);have n5:l5≠u:=λz=>by rw[z,aa]at B;cases B
   refine U rfl ⟨t,_,al,_,U rfl ⟨s5 _ _ (L _ _ J nt.1 nt.2),T.bp,T.gr,rfl,U rfl ⟨u,tk,k,rfl,aa,a2,bi,by rw[g8];lia,U rfl ?_⟩⟩⟩;have o6:l7 M u H (aJ H5 u (dM P w u (cX tk k kv (.ref l5)))):=λb o e h1 h2=>by rw[ao h2];exact o5 b o e h1 h2
   have bl:aJ H5 u (dM P w u (cX tk k kv (.ref l5))) l5=some (.lst ((C.take c.toNat).map V.int)):=by rw[ao n5];exact B
   have a3:H l5=none:=oS ((l7.of s3).trans L) (by rw[f];simp) (by rw[y];simp) a0;refine q W _ _ o6 a5 (by rw[ao G.2];exact s5 _ _ (L _ _ l G.1 G.2)) (yz _ _ _ _) (ft.put a3) ⟨⟨al,by rw[ao nt.2];exact s5 _ _ (L _ _ J nt.1 nt.2)⟩,by rw[ao (mu nod)];exact s5 _ _ f,ag,?_,?_⟩
   ·exact dQ.put (λx Z=>eJ o6 g.own g.tak (g.keys x Z)) (eJ o6 g.own g.tak hk)
   ·exact fh.put bl (g.lsts.off o6 g.own g.tak)
end
def lW(ow:List (cu×V))(c:V)(d:Ob):List (cu×V):=d.foldl (λo p=>fe o (.inl p) c) ow
def r9(c:V)(d:Ob):∀(ow:List (cu×V))(j:Int),bw (lW ow c d) (.inl j)=if j∈d then some c else bw ow (.inl j):=by induction d with|nil=>intro ow j;rw[ge (by simp)];rfl|cons p r b=>
  intro ow j;show bw (lW (fe ow (.inl p) c) c r) (.inl j)=_;rw[b,CG]
  by_cases h1:j∈r
  ·rw[gn h1,gn (g_ _ h1)]
  ·rw[ge h1]
   by_cases h2:j=p
   ·rw[gn (by rw[h2]),gn (by rw[h2];exact hF)]
   ·rw[ge (λz=>h2 (NS z)),ge (λz=>(ot.mp z).elim h2 h1)]
def vJ(c:V)(d:Ob):∀(ow:List (cu×V)),(lW ow c d).length<=ow.length+d.length:=by induction d with|nil=>intro ow;exact eN _|cons p r b=>intro ow;have h1:=b (fe ow (.inl p) c);have h2:=lV ow (.inl p) c;show(lW (fe ow (.inl p) c) c r).length<=_;rw[kl];lia
def Ag(n:Nat)(ow:List (cu×V)):(gw n ow).length<=n:=by unfold gw;rw[b_];exact j_ (pw _ _) (by rw[md];exact eN _)
inductive Ix(P:N6)(w:World)(K:N1)(C:Addr)(vs:List V)(H:Hp)(Q:VK)(_E:XK):Prop|mk(t od td:Addr)(n:Nat)(ow:List (cu×V))(tk:List eX)(m:List Pl)(k:bC)(kv:V)(num:Int)(_:vs=[.ref t,kv,.int num])(_:eO P w K C H t od td n ow tk m)(_:cS K H k kv)(_:n<=1000)(_:((bA m k).length:Int)<=num)(_:(bA m k).length<=1000000)(_:tk.length<100000)(_:ow.length<1000000)(_:∀(tk':List eX)H',l7 od td H H'->tk'.length<=tk.length+1->ft H tk tk'->eO P w K C H' t od td n (lW ow kv ((gw n ow).take (num-(bA m k).length).toNat)) tk' (cX m k kv (bA m k++(gw n ow).take (num-(bA m k).length).toNat))->Q .non H')
section
def uT(T:Txt K mg a):aQ P w K mg base dB 2 a.fO.x a.fO.d ["self","owner","number"] (Ix P w K a.bS):=by
 refine T.fO.ok gZ λbi A outer s H vs Q E hr h=>?_
 ·obtain⟨t,D,l,n,ow,tk,m,k,F,G,rfl,f,hk,hn,aa,a3,bl,bn,q⟩:=h;refine⟨_,(af (bj 3 gZ.nd (bh (Y 0) T.bp T.bg.m ((dX (P:=P) (w:=w) T).mono (by decide)) hr T.bg.b .nil bq (ac (Y 1) O))) (af (bj 4 gZ.nd (gk (sy K rfl) (kc (Y 0) T.bp T.d9.m ((mV (P:=P) (w:=w) T).mono (by decide)) hr T.d9.b .nil bq) iy (ix (aA fB (Y 2) (au (aG K rfl) (by rfl) T.bo L2.aK (ac (Y 3) O)))))) (af (dJ k_ rfl (eA K rfl (Y 4)) (qF 5 gZ.nd) (ah (kM (Y 1) (kN (aI K rfl (Y 0)) (Y 5) (pG (cz hr)))))) (ah (kM (aA wC (Y 3) (Y 4)) (kN (aI K rfl (Y 0)) (Y 1) (Dx (P:=P) (w:=w) K rfl (cz hr)))))))),?_⟩
  obtain⟨dx,hI⟩:=f.ins;refine lj hI rfl rfl (U rfl ⟨t,D,l,n,ow,tk,m,k,F,rfl,f,hk,λlp H1 s1 bt ad=>aq ?_⟩);have a5:=f.same s1;generalize bA m k=C at aa a3 q ad⊢;refine lj (s1 _ _ hI) rfl rfl ⟨t,D,l,n,ow,tk,m,rfl,a5,hn,λa6 H2 s2 bx al=>?_⟩;have a7:=Ag n ow;generalize gw n ow=fs at a7 al q;have y:=s2 _ _ ad;refine U rfl (U rfl ⟨_,C.length,rfl,.inl ⟨_,aX.of y,by rw[b_]⟩,G,(C.length:Int),rfl,rfl,G-(C.length:Int),rfl,a6,U rfl ⟨aX.of al,λS an=>aq ?_⟩⟩);rw[Am _ (by omega),<-NA];generalize a8:fs.take (G-(C.length:Int)).toNat=c at q⊢;have bz:c.length<=1000:=by rw[<-a8,ji];omega
  have s3:=aj (o:=.lst (c.map V.int)) (s1.trans s2) an;have g:aJ H2 S (.lst (c.map V.int)) S=some (.lst (c.map V.int)):=ag;have B:aJ H2 S (.lst (c.map V.int)) lp=some (.lst (C.map V.int)):=by rw[ao (aH y an)];exact y
  generalize aJ H2 S (.lst (c.map V.int))=H3 at s3 g B⊢;have r:=f.same s3;obtain⟨W,I⟩:=r.ins;have ne:∀{b:Addr}{o:HO},H3 b=some o->(∀ba,o≠.dK ba)->(∀φ,o≠.ext φ)->b≠D/\b≠l:=λe h1 h2=>⟨λz=>by rw[z,r.own]at e;cases e;exact h1 _ rfl,λz=>by rw[z,r.tak]at e;cases e;exact h2 _ rfl⟩;have J:=ne g (λ_ z=>nomatch z) (λ_ z=>nomatch z);have ap:=ne B (λ_ z=>nomatch z) (λ_ z=>nomatch z);have X:=ne I (λ_ z=>nomatch z) (λ_ z=>nomatch z);have nod:l≠D:=λz=>by have e:=r.tak;rw[z,r.own]at e;cases e
  refine U rfl ⟨S,rfl,⟨_,aX.of g⟩,?_⟩;refine kx (xs:=c.map V.int) (λi σ H'=>l7 D l H3 H'/\H' D=some (.dK (lW ow F (c.take i)))/\H' l=some (dM P w l tk)/\∃v5,σ=[some (.ref t),some F,some (.int G),some (.ref lp),some (.ref S),v5]) ⟨.of (am.refl _),r.own,r.tak,_,rfl⟩ (λi σ H' _ h=>aX.of (h.1 _ _ g J.1 J.2)) ?_ ?_
  ·rintro i x σ H4 M⟨L,j,u,v5,rfl⟩;have hi:i<c.length:=by simpa using(d_.mp M).1
   have hp:c[i]?=some c[i]:=fx hi;rw[f_,hp]at M;generalize c[i]=p at M hp;cases M;have hg:lW ow F (c.take (i+1))=fe (lW ow F (c.take i)) (.inl p) F:=by unfold lW;rw[rr,hp,u6];rfl
   have b0:=vJ F (c.take i) ow;have b8:=List.length_take_le i c;refine aq (U rfl (U rfl ⟨t,_,W,_,U rfl ⟨L _ _ I X.1 X.2,T.bp,T.eC,rfl,U rfl ⟨D,_,.inl p,rfl,rfl,j,by rw[g8];omega,?_⟩⟩⟩));refine⟨λb o e h1 h2=>by rw[ao h1];exact L b o e h1 h2,by rw[hg];exact ag,by rw[ao nod];exact u,_,rfl⟩
  ·rintro σ H4⟨L,j,u,v5,rfl⟩;rw[b_,hH (eN _)]at j;have as:=L _ _ B ap.1 ap.2;have ax:=L _ _ g J.1 J.2;refine U rfl (U rfl ⟨lp,S,_,U rfl ⟨rfl,as,ax,by rw[b_,b_,g8];lia,λN ay=>?_⟩⟩);rw[<-gg];have Z:=aj (o:=.lst ((C++c).map V.int)) (am.refl H4) ay;have v:aJ H4 N (.lst ((C++c).map V.int)) N=some (.lst ((C++c).map V.int)):=ag;generalize aJ H4 N (.lst ((C++c).map V.int))=H5 at Z v⊢;have o5:l7 D l H H5:=(l7.of s3).trans (L.trans (.of Z));have R:=Z _ _ u;have bb:=eJ o5 f.own f.tak hk;have a0:dQ K H5 tk:=λx M=>eJ o5 f.own f.tak (f.keys x M);have n5:N≠l:=λz=>by rw[z,R]at v;cases v
   refine U rfl ⟨t,_,W,_,U rfl ⟨Z _ _ (L _ _ I X.1 X.2),T.bp,T.gr,rfl,U rfl ⟨l,tk,k,rfl,R,a0,bb,by rw[g8];omega,?_⟩⟩⟩;have o6:l7 D l H (aJ H5 l (dM P w l (cX tk k F (.ref N)))):=λb o e h1 h2=>by rw[ao h2];exact o5 b o e h1 h2
   have bc:aJ H5 l (dM P w l (cX tk k F (.ref N))) N=some (.lst ((C++c).map V.int)):=by rw[ao n5];exact v
   have a2:H N=none:=oS ((l7.of s3).trans L) (by rw[j];simp) (by rw[u];simp) ay;refine q _ _ o6 (yz _ _ _ _) (ft.put a2) ⟨⟨W,by rw[ao X.2];exact Z _ _ (L _ _ I X.1 X.2)⟩,by rw[ao (mu nod)];exact Z _ _ j,ag,?_,?_⟩
   ·exact dQ.put (λx M=>eJ o6 f.own f.tak (f.keys x M)) (eJ o6 f.own f.tak hk)
   ·exact fh.put bc (f.lsts.off o6 f.own f.tak)
end
structure AS where
 pl:bC->List Int
 oc:Int->Bool
def o9(n:Nat)(oc:Int->Bool):List Int:=((List.range n).filter λ(i:Nat)=>!oc (i:Int)).map λ(i:Nat)=>(i:Int)
def AS.give(s:AS)(k:bC)(c:Nat):AS:=⟨λj=>if j=k then(s.pl k).take c else s.pl j,λp=>if p∈(s.pl k).drop c then false else s.oc p⟩
def AS.took(s:AS)(n:Nat)(k:bC)(c:Nat):AS:=⟨λj=>if j=k then s.pl k++(o9 n s.oc).take (c-(s.pl k).length)else s.pl j,λp=>if p∈(o9 n s.oc).take (c-(s.pl k).length)then true else s.oc p⟩
structure AS.Ok(n:Nat)(s:AS):Prop where
 in_:∀k p,p∈s.pl k->0<=p/\p<n/\s.oc p=true
 dj:∀k j p,p∈s.pl k->p∈s.pl j->k=j
 nd:∀k,(s.pl k).Nodup
def AS.new:AS:=⟨λ_=>[],λ_=>false⟩
def AS.new_ok(n:Nat):AS.new.Ok n:=⟨λ_ _ h=>(nomatch h),λ_ _ _ h=>(nomatch h),λ_=>J_⟩
def Hd:p∈o9 n oc↔0<=p/\p<n/\oc p=false:=by
 unfold o9;rw[ig]
 constructor
 ·rintro⟨i,hi,rfl⟩;obtain⟨h1,h2⟩:=oe.mp hi;have:=n_.mp h1;exact⟨by exact hY _,by exact Int.ofNat_lt.mpr this,by simpa using h2⟩
 ·rintro⟨h1,h2,h3⟩;refine⟨p.toNat,oe.mpr ⟨n_.mpr (by lia),?_⟩,by exact Nz h1⟩;rw[show((p.toNat:Nat):Int)=p by exact Nz h1,h3];rfl
def JF(n:Nat)(oc:Int->Bool):(o9 n oc).Nodup:=by unfold o9;rw[z4,MU];exact(z4.mp (List.filter_sublist.nodup List.nodup_range)).imp λh=>by lia
def JG(n:Nat)(oc:Int->Bool):(o9 n oc).length<=n:=by unfold o9;rw[b_];exact j_ (pw _ _) (by rw[md];exact eN _)
theorem AS.Ok.give{n:Nat}{s:AS}(h:s.Ok n)(k:bC)(c:Nat):(s.give k c).Ok n:=by
 have f:∀p,p∈(s.pl k).take c->p∉(s.pl k).drop c:=λp h1 h2=>by have:=h.nd k;rw[<-r_ c (s.pl k),n7]at this;exact this.2.2 p h1 p h2 rfl
 have sub:∀j p,p∈(s.give k c).pl j->p∈s.pl j:=λj p d=>by
  have d:p∈(if j=k then(s.pl k).take c else s.pl j):=d
  split at d
  ·rename_i e;rw[e];exact z7 d
  ·exact d
 refine⟨λj p d=>?_,λj i p h1 h2=>h.dj j i p (sub j p h1) (sub i p h2),λj=>?_⟩
 ·obtain⟨a,b,e⟩:=h.in_ j p (sub j p d);refine⟨a,b,?_⟩;show(if p∈(s.pl k).drop c then false else s.oc p)=true;rw[ge,e];intro z;have d:p∈(if j=k then(s.pl k).take c else s.pl j):=d
  split at d
  ·exact f p d z
  ·rename_i g;exact g (h.dj j k p d (List.mem_of_mem_drop z))
 ·show(if j=k then(s.pl k).take c else s.pl j).Nodup
  split
  ·exact(MT _ _).nodup (h.nd k)
  ·exact h.nd j
theorem AS.Ok.took{n:Nat}{s:AS}(h:s.Ok n)(k:bC)(c:Nat):(s.took n k c).Ok n:=by
 have fr:∀p∈(o9 n s.oc).take (c-(s.pl k).length),0<=p/\p<n/\s.oc p=false:=λp f=>Hd.mp (z7 f);have g:((o9 n s.oc).take (c-(s.pl k).length)).Nodup:=(MT _ _).nodup (JF _ _);unfold AS.took;generalize(o9 n s.oc).take (c-(s.pl k).length)=l at fr g;have d:∀j p,p∈(if j=k then s.pl k++l else s.pl j)->p∈s.pl j\/(j=k/\p∈l):=λj p f=>by
  split at f
  ·rename_i e;rcases List.mem_append.mp f with z|z
   ·rw[e];exact .inl z
   ·exact .inr ⟨e,z⟩
  ·exact .inl f
 refine⟨λj p f=>?_,λj i p h1 h2=>?_,λj=>?_⟩
 ·show 0<=p/\p<n/\(if p∈l then true else s.oc p)=true;rcases d j p f with z|⟨_,z⟩
  ·obtain⟨a,b,e⟩:=h.in_ j p z;refine⟨a,b,?_⟩
   split
   ·rfl
   ·exact e
  ·exact⟨(fr p z).1,(fr p z).2.1,by rw[gn z]⟩
 ·rcases d j p h1 with z|⟨m,z⟩<;>rcases d i p h2 with y|⟨o,y⟩
  ·exact h.dj j i p z y
  ·have:=(h.in_ j p z).2.2;rw[(fr p y).2.2]at this;cases this
  ·have:=(h.in_ i p y).2.2;rw[(fr p z).2.2]at this;cases this
  ·rw[m,o]
 ·show(if j=k then s.pl k++l else s.pl j).Nodup
  split
  ·rw[n7];refine⟨h.nd k,g,λa q b r z=>?_⟩;subst z;have h1:=(h.in_ k a q).2.2;rw[(fr a r).2.2]at h1;cases h1
  ·exact h.nd j
abbrev Wl:=List (bC×Int)
def cN(s:AS)(W:Wl):AS:=W.foldl (λs x=>s.give x.1 x.2.toNat) s
def dH:AS->Wl->List Int|_,[]=>[]|s,x::r=>((s.pl x.1).drop x.2.toNat).reverse++dH (s.give x.1 x.2.toNat) r
def du(n:Nat)(s:AS)(W:Wl):AS:=W.foldl (λs x=>s.took n x.1 x.2.toNat) s
def jv(s:AS)(W:Wl):Int:=(W.map λx=>x.2-((s.pl x.1).length:Int)).sum
def wQ(s:AS)(W:Wl)(x:bC×Int):cN s (W++[x])=(cN s W).give x.1 x.2.toNat:=by unfold cN;rw[u6];rfl
theorem pf:∀(W:Wl)(s:AS)(x:bC×Int),dH s (W++[x])=dH s W++(((cN s W).pl x.1).drop x.2.toNat).reverse|[],s,x=>by show _++[]=[]++_;rw[qr,List.nil_append];rfl|y::r,s,x=>by show _++dH _ (r++[x])=(_++dH _ r)++_;rw[pf r,u_];rfl
def wf(n:Nat)(s:AS)(W:Wl)(x:bC×Int):du n s (W++[x])=(du n s W).took n x.1 x.2.toNat:=by unfold du;rw[u6];rfl
theorem i0{n:Nat}:∀(W:Wl){s:AS},s.Ok n->(cN s W).Ok n|[],_,h=>h|x::r,_,h=>i0 r (h.give x.1 x.2.toNat)
theorem kD{n:Nat}:∀(W:Wl){s:AS},s.Ok n->(du n s W).Ok n|[],_,h=>h|x::r,_,h=>kD r (h.took x.1 x.2.toNat)
def zP(s:AS)(x:bC×Int)(W:Wl):jv s (x::W)=(x.2-((s.pl x.1).length:Int))+jv s W:=by unfold jv;rw[ku,List.sum_cons]
def oT{n:Nat}{c:Ob}(h:c.Nodup)(d:∀p∈c,0<=p/\p<n):c.length<=n:=by
 have:=DY (l:=c) (m:=(List.range n).map λ(i:Nat)=>(i:Int)) h λp b=>by obtain⟨h1,h2⟩:=d p b;exact ig.mpr ⟨p.toNat,n_.mpr (by lia),by exact Nz h1⟩
 rw[b_,md]at this;exact this
def JW(K:N1)(H:Hp)(d:List V)(W:Wl):Prop:=Paired (λ(v:V)(x:bC×Int)=>∃b c,v=.ref b/\bd K H b [c,.int x.2]/\cS K H x.1 c) d W
def JW.get(h:JW K H d W)(i:Nat)(v:V)(e:d[i]?=some v):∃x,W[i]?=some x/\∃b c,v=.ref b/\bd K H b [c,.int x.2]/\cS K H x.1 c:=Paired.at_ h i v e
def DV(h:l7 d f H H')(h1:H d=some (.dK g))(h2:H f=some (.ext φ))(e:bd K H b c):bd K H' b c:=by have kp:Kp H H':=⟨λu c e=>h.tp h1 h2 e,λu o⟨i,e⟩=>⟨i,h u _ e (λz=>by rw[z,h1]at e;cases e) (λz=>by rw[z,h2]at e;cases e)⟩⟩;exact kp.tq e
def eO.list(h:eO P w K C H t g i n ow tk m)(hl:H c=some (.lst bs))(d:∀x∈tk,x.2.2≠.ref c):eO P w K C (aJ H c (.lst cs)) t g i n ow tk m:=by
 obtain⟨dx,b⟩:=h.ins;have kp:Kp H (aJ H c (.lst cs)):=.lst hl;refine⟨⟨dx,by rw[ao (λz=>by rw[z,hl]at b;cases b)];exact b⟩,by rw[ao (λz=>by have e:=h.own;rw[z,hl]at e;cases e)];exact h.own,by rw[ao (λz=>by have e:=h.tak;rw[z,hl]at e;cases e)];exact h.tak,λx j=>?_,?_⟩
 ·exact eF kp (h.keys x j)
 ·have go:∀{tk:List eX}{m:List Pl},fh H tk m->(∀x∈tk,x.2.2≠.ref c)->fh (aJ H c (.lst cs)) tk m:=by
   intro tk m h d
   induction h with|nil=>exact .nil|@cons x y s u r t k=>obtain⟨o,p,l,f,q⟩:=r;refine .cons ⟨o,p,l,f,?_⟩ (k λz hz=>d z (g_ _ hz));rw[ao (λz=>d x hF (by rw[f,z]))];exact q
  exact go h.lsts d
theorem fh.at_(h:fh H tk m)(i:Nat)(x:eX)(e:tk[i]?=some x):∃y:Pl,m[i]?=some y/\∃l,x.2.2=.ref l/\H l=some (.lst (y.2.2.map V.int)):=(Paired.at_ h i x e).imp λ_ q=>⟨q.1,q.2.2.2⟩
def EO(c:Ob):∀(ow:List (cu×V)),(rD ow c).length<=ow.length:=by induction c with|nil=>intro ow;exact eN _|cons p r b=>intro ow;exact j_ (b _) (yO ow (.inl p))
def En(f:List (bC×g×h))(k j:bC)(b:g)(v:h):eE (cX f k b v) j=if j=k then some v else eE f j:=by
 have d:∀c:List (bC×g×h),eE (c.map λy=>if y.1=k then(y.1,y.2.1,v)else y) j=(eE c j).map λx=>if j=k then v else x:=by
  intro c
  induction c with|nil=>rfl|cons z r l=>
   unfold eE at l⊢;rw[ku,o8,o8];have hz:(if z.1=k then(z.1,z.2.1,v)else z).1=z.1:=by split<;>rfl
   rw[hz]
   by_cases e:z.1=j
   ·rw[il e];show some (if z.1=k then(z.1,z.2.1,v)else z).2.2=some (if j=k then v else z.2.2);rw[e]
    split<;>rfl
   ·rw[iA e];exact l
 have i:∀c:List (bC×g×h),eE c k=none->eE (c++[(k,b,v)]) j=if j=k then some v else eE c j:=by
  intro c hz;unfold eE at hz⊢;rw[List.find?_append]
  by_cases e:j=k
  ·subst e;rw[gn rfl,Option.map_eq_none_iff.mp hz];simp
  ·rw[ge e];have:List.find? (λy:bC×g×h=>decide (y.1=j)) [(k,b,v)]=none:=by simp[mu e]
   rw[this,Option.or_none]
 unfold cX
 by_cases hc:(eE f k).isSome=true
 ·rw[gn hc,d]
  by_cases e:j=k
  ·subst e;obtain⟨x,m⟩:=D_.mp hc;rw[m,gn rfl];simp
  ·rw[ge e];simp[e]
 ·rw[ge hc];exact i f (by simpa using hc)
def ja(n:Nat)(s:AS)(ow:List (cu×V))(m:List Pl):Prop:=(∀k,bA m k=s.pl k)/\∀p:Int,0<=p->p<n->(bw ow (.inl p)).isSome=s.oc p
def iz(m:List Pl)(k j:bC)(d:V)(c:Ob):bA (cX m k d c) j=if j=k then c else bA m j:=by
 unfold bA;rw[En]
 split<;>rfl
def ja.free(h:ja n s ow m):gw n ow=o9 n s.oc:=by
 unfold gw o9
 congr 1
 refine List.filter_congr λi hi=>?_;have:=n_.mp hi;rw[<-h.2 i (by exact hY _) (by exact Int.ofNat_lt.mpr this)];cases bw ow (.inl (i:Int))<;>rfl
theorem ja.give(h:ja n s ow m)(k:bC)(d:V)(c:Nat):ja n (s.give k c) (rD ow ((s.pl k).drop c).reverse) (cX m k d ((s.pl k).take c)):=by
 refine⟨λj=>?_,λp e f=>?_⟩
 ·rw[iz,h.1];rfl
 ·rw[pB];show _=if p∈(s.pl k).drop c then false else s.oc p
  by_cases b:p∈(s.pl k).drop c
  ·rw[gn b,gn (Mw.mpr b)];rfl
  ·rw[ge b,ge (λz=>b (Mw.mp z))];exact h.2 p e f
theorem ja.took(h:ja n s ow m)(k:bC)(d:V)(c:Nat):ja n (s.took n k c) (lW ow d ((o9 n s.oc).take (c-(s.pl k).length))) (cX m k d (s.pl k++(o9 n s.oc).take (c-(s.pl k).length))):=by
 refine⟨λj=>?_,λp b e=>?_⟩
 ·rw[iz,h.1];rfl
 ·rw[r9];show _=if p∈(o9 n s.oc).take (c-(s.pl k).length)then true else s.oc p
  split
  ·rfl
  ·exact h.2 p b e
def ft.refl(H:Hp)(tk:List eX):ft H tk tk:=λx b=>.inl ⟨x,b,rfl⟩
theorem ft.trans(a:ft H tk c)(b:ft g c d)(h:∀l,g l=none->H l=none):ft H tk d:=λx i=>by
 rcases b x i with⟨y,j,e⟩|⟨l,e,hl⟩
 ·rcases a y j with⟨z,hz,f⟩|⟨l,f,hl⟩
  ·exact .inl ⟨z,hz,f.trans e⟩
  ·exact .inr ⟨l,e▸f,hl⟩
 ·exact .inr ⟨l,e,h l hl⟩
def cT{c:Type}{l:List c}{i:Nat}{x:c}(h:l[i]?=some x):l.take (i+1)=l.take i++[x]:=by rw[rr,h];rfl
theorem qU{n:Nat}:∀(W:Wl){s:AS},s.Ok n->(dH s W).length<=n*W.length|[],_,_=>j1 _|x::r,s,h=>by show(_++dH _ r).length<=n*(r.length+1);have c:=qU r (h.give x.1 x.2.toNat);have h1:=oT (h.nd x.1) λp b=>⟨(h.in_ x.1 p b).1,(h.in_ x.1 p b).2.1⟩;rw[ga,ML,Mx,Nat.mul_add,Nat.mul_one];lia
def qb{K:N1}{a:Addr}{xs:List V}{g:TG}{tb:TS}{D:lq}{c:St}{H:Hp}(Pv:Nat->St->Hp->Prop)(h0:Pv 0 c H)(hl:∀i c H,i<=xs.length->Pv i c H->aX K H a xs)(f:∀i x c H,xs[i]?=some x->Pv i c H->∀(N:St->Hp->Prop)(R:VK)(B:St->Hp->Prop),(∀c H,Pv (i+1) c H->N c H)->g x c H λd h=>tb ⟨N,R,B,N⟩ d h)(hd:∀c H,Pv xs.length c H->D.nx c H):=kx (K:=K) (a:=a) (g:=g) (tb:=tb) (D:=D) Pv h0 hl (λi x c H e p=>f i x c H e p _ D.rt _ λ_ _ q=>q) hd
def t5{lo:Int}{n:Nat}{g:TG}{tb:TS}{D:lq}{c:St}{H:Hp}(Pv:Nat->St->Hp->Prop)(h0:Pv 0 c H)(f:∀i c H,i<n->Pv i c H->∀(N:St->Hp->Prop)(R:VK)(B:St->Hp->Prop),(∀c H,Pv (i+1) c H->N c H)->g (.int (lo+i)) c H λd h=>tb ⟨N,R,B,N⟩ d h)(hd:∀c H,Pv n c H->D.nx c H):=gJ (lo:=lo) (n:=n) (g:=g) (tb:=tb) (D:=D) Pv h0 (λi c H e p=>f i c H e p _ D.rt _ λ_ _ q=>q) hd
def uB(R:bC->V->Prop)(n:Nat)(s:AS)(ow:List (cu×V)):Prop:=∀(p:Int)(v:V),0<=p->p<n->bw ow (.inl p)=some v->∃k,p∈s.pl k/\R k v
theorem uB.give(h:uB R n s ow)(k:bC)(c:Nat):uB R n (s.give k c) (rD ow ((s.pl k).drop c).reverse):=by
 intro p v b d e;rw[pB]at e
 split at e
 ·cases e
 ·rename_i f;obtain⟨j,hj,r⟩:=h p v b d e;refine⟨j,?_,r⟩;show p∈if j=k then(s.pl k).take c else s.pl j
  split
  ·rename_i g;rw[g,<-r_ c (s.pl k),List.mem_append]at hj;exact hj.resolve_right λz=>f (Mw.mpr z)
  ·exact hj
theorem uB.took(h:uB R n s ow)(k:bC)(d:R k f)(c:Nat):uB R n (s.took n k c) (lW ow f ((o9 n s.oc).take (c-(s.pl k).length))):=by
 intro p v b g e;rw[r9]at e
 split at e
 ·rename_i i;cases e;refine⟨k,?_,d⟩;show p∈if k=k then s.pl k++(o9 n s.oc).take (c-(s.pl k).length)else s.pl k
  rw[gn rfl];exact mo _ i
 ·obtain⟨j,hj,r⟩:=h p v b g e;refine⟨j,?_,r⟩;show p∈if j=k then s.pl k++(o9 n s.oc).take (c-(s.pl k).length)else s.pl j
  split
  ·rename_i l;rw[l]at hj;exact u1 _ hj
  ·exact hj
def uB.mono(h:uB R n s ow)(f:∀k v,R k v->c k v):uB c n s ow:=λp v b d e=>let⟨k,h1,h2⟩:=h p v b d e;⟨k,h1,f k v h2⟩
inductive CW(P:N6)(w:World)(K:N1)(C N:Addr)(vs:List V)(H:Hp)(Q:VK)(E:XK):Prop|mk(t od td wl:Addr)(n:Nat)(ow:List (cu×V))(tk:List eX)(m:List Pl)(S:AS)(W:Wl)(ts:List V)(_:vs=[.ref t,.ref wl])(_:eO P w K C H t od td n ow tk m)(_:ja n S ow m)(_:uB (cS K H) n S ow)(_:S.Ok n)(_:H wl=some (.lst ts))(_:JW K H ts W)(_:(∀x∈W,0<=x.2))(_:(W.map (·.1)).Nodup)(_:W.length<=5)(_:n<=1000)(_:tk.length<=5000)(_:ow.length<=500000)(_:(jv S W<=((o9 n S.oc).length:Int)->∀(l:Addr)(ow':List (cu×V))(tk':List eX)(m':List Pl)H',l7 od td H H'->eO P w K C H' t od td n ow' tk' m'->ja n (du n (cN S W) W) ow' m'->uB (cS K H) n (du n (cN S W) W) ow'->H l=none->H' l=some (.lst ((dH S W).map V.int))->ft H tk tk'->(∀x∈tk',x.2.2≠.ref l)->tk'.length<=tk.length+10->ow'.length<=ow.length+5000->Q (.ref l) H'))(_:(((o9 n S.oc).length:Int)<jv S W->∀H',am H H'->E (.ref N) none H'))
section
def mU(T:Txt K mg a):aQ P w K mg base (qy P w) 3 a.d8.x a.d8.d ["self","wanted"] (CW P w K a.bS a.nM):=by
 refine T.d8.okE dC λen A outer s H vs Q E hr h=>?_
 ·obtain⟨t,od,td,wl,n,ow,tk,m,S,W,ts,rfl,hT,hS,hR,hO,b8,hW,cA,d5,eo,hn,ep,eq,q,qe⟩:=h;refine⟨_,(af (bj 2 dC.nd (au (Cn K rfl rfl) (by rfl) T.K2 L2.Fk (ac (rT iG [] [4,5] [4,5] (ai kI) (Ad _ 4 5) (eA K rfl (Y 1)) (λcl C s₀ H₀ ex=>⟨(iD K rfl rfl (ca (oI iG [] 4) (ca (oI iG [] 5) iC))),cF,(aA fB (Y 5) (au (aG K rfl) (by rfl) T.bo L2.aK (ac (bh (Y 0) T.bp T.bg.m ((dX (P:=P) (w:=w) T).mono (by decide)) hr T.bg.b .nil bq (ac (Y 4) O)) O)))⟩)) O))) (af (aL (aD qG (Y 2) (au (aG K rfl) (by rfl) T.bo L2.aK (ac (kc (Y 0) T.bp T.d9.m ((mV (P:=P) (w:=w) T).mono (by decide)) hr T.d9.b .nil bq) O)) (aF _)) (ah (tG T.vL rfl T.yx rfl tF (ac aE O))) aC) (af (bj 3 dC.nd (bu O)) (af (PS.nox (dJ k_ rfl (eA K rfl (Y 1)) (iD K rfl rfl (ca (qF 4 dC.nd) (ca (qF 5 dC.nd) iC))) (ah (aR (ii K rfl PySem.F.plainAttrs_list PySem.F.slot_list_extend PySem.F.type_list_extend vA (Y 3) (ac (bh (Y 0) T.bp T.cO.m ((nC (P:=P) (w:=w) T).mono (by decide)) hr T.cO.b .nil bq (ac (Y 4) (ac (Y 5) O))) O)))))) (af (PS.nox (dJ k_ rfl (eA K rfl (Y 1)) (iD K rfl rfl (ca (qF 4 dC.nd) (ca (qF 5 dC.nd) iC))) (ah (aR (bh (Y 0) T.bp T.fO.m ((uT (P:=P) (w:=w) T).mono (by decide)) hr T.fO.b .nil bq (ac (Y 4) (ac (Y 5) O))))))) (ah (az (Y 3)))))))),?_⟩
  obtain⟨dx,hI⟩:=hT.ins;have c0:ts.length=W.length:=Paired.length hW;refine U rfl ⟨wl,rfl,⟨_,aX.of b8⟩,λD hD=>?_⟩;refine mx (K:=K) (a:=wl) (xs:=ts) (λi a2 H'=>am H H'/\H' D=some (.lst a2)/\a2=((W.take i).map λx=>x.2-((S.pl x.1).length:Int)).map V.int) ⟨aj (am.refl _) hD,ag,rfl⟩ (λi a2 H' _ h=>aX.of (h.1 _ _ b8)) ?_ ?_
  ·rintro i v a2 H1 hv⟨s1,bb,rfl⟩;have hi:i<ts.length:=(d_.mp hv).1;obtain⟨x,hx,b,kv,rfl,hb,hk⟩:=hW.get i v hv;refine⟨b,U rfl ⟨am.tseq s1 hb,rfl,_,U rfl (aq ⟨_,U rfl (aq ⟨rfl,jB (bD ?_)⟩)⟩)⟩⟩;refine U rfl (lj (s1 _ _ hI) rfl rfl (U rfl ⟨t,od,td,n,ow,tk,m,x.1,kv,rfl,hT.same s1,nG s1 hk,λlp H2 s2 er ea=>?_⟩));refine⟨_,U rfl ⟨.inl ⟨_,aX.of ea,rfl⟩,_,U rfl ⟨rfl,s2 _ _ bb,by rw[b_,b_,ji,g8];omega,lf hi ⟨bM (s1.trans s2) hD,ag,?_⟩⟩⟩⟩;rw[cT hx,gg,gg,hS.1,b_];rfl
  ·rintro a2 H1⟨s1,bb,rfl⟩;rw[hH (by exact B_ c0.symm)]at bb;refine⟨D,U rfl ⟨.inl (aX.of bb),aq ?_⟩⟩;have eb:=hT.same s1;refine U rfl (lj (s1 _ _ hI) rfl rfl ⟨t,od,td,n,ow,tk,m,rfl,eb,hn,λes H2 s2 ev c1=>?_⟩);rw[hS.free]at c1;refine⟨_,U rfl ⟨.inl ⟨_,aX.of c1,rfl⟩,_,U rfl ⟨rfl,U rfl ?_⟩⟩⟩;have X:=s1.trans s2;rw[b_];refine wN (λe=>⟨ls rfl,qe (i_ e) H2 X⟩) (λe=>qK ⟨ls rfl,λZ ap=>aq ?_⟩);have q:=q (Int.not_lt.mp (of_decide_eq_false e));clear e qe;have as:=hT.same X;have s3:=aj (o:=.lst []) (am.refl H2) ap;have bn:aJ H2 Z (.lst []) Z=some (.lst []):=ag;have c2:H Z=none:=X.free ap;generalize aJ H2 Z (.lst [])=H3 at s3 bn⊢;have r:=X _ _ b8;refine U rfl ⟨wl,rfl,⟨_,aX.of (s3 _ _ r)⟩,?_⟩;have a3:Z≠od:=λz=>by have e:=as.own;rw[<-z,ap]at e;cases e
   have a5:Z≠td:=λz=>by have e:=as.tak;rw[<-z,ap]at e;cases e
   have c3:wl≠od:=λz=>by have e:=as.own;rw[<-z,r]at e;cases e
   have c4:wl≠td:=λz=>by have e:=as.tak;rw[<-z,r]at e;cases e
   have ax:wl≠od/\wl≠td:=⟨c3,c4⟩;have c5:∀x∈tk,x.2.2≠.ref Z:=λx hx z=>by obtain⟨i,hi⟩:=hQ.mp hx;obtain⟨y,_,l,e3,e4⟩:=fh.at_ as.lsts i x hi;rw[e3]at z;cases z;rw[ap]at e4;cases e4
   have da:ft H2 tk tk:=ft.refl _ _;have fresh:∀H',l7 od td H2 H'->H' od≠none->H' td≠none->∀l,H' l=none->H2 l=none:=λH' o h1 h2 l hl=>oS o h1 h2 hl;refine qb (xs:=ts) (λi σ H'=>LP λg J m'=>LC (l7 od td H2 H') (eO P w K a.bS H' t od td n g J m') ((ja n (cN S (W.take i)) g m'/\uB (cS K H) n (cN S (W.take i)) g)) (ft H2 tk J) (J.length<=tk.length+i) (g.length<=ow.length) ((∀x∈J,x.2.2≠.ref Z)) (H' Z=some (.lst ((dH S (W.take i)).map V.int))) ((∀j x,j<i->W[j]?=some x->((bA m' x.1).length:Int)<=x.2)) (LP λv2 v4 v5=>σ=[some (.ref t),some (.ref wl),v2,some (.ref Z),v4,v5])) ⟨ow,tk,m,.of s3,as.same s3,⟨hS,hR⟩,da,eN _,eN _,c5,bn,λj x hj=>absurd hj (NU _),_,_,_,rfl⟩ (λi σ H' _ h=>by obtain⟨_,_,_,o,_⟩:=h;exact aX.of (o _ _ r ax.1 ax.2)) ?_ ?_
   ·rintro i v σ H4 hv⟨g,J,m',o4,ay,⟨a0,bc⟩,a6,dc,di,a7,u,al,v2,v4,v5,rfl⟩N R B hN;have hi:i<ts.length:=(d_.mp hv).1;obtain⟨x,hx,b,kv,rfl,hb,hk⟩:=hW.get i v hv;have dt:=cA x (e_ hx);obtain⟨ew,ec⟩:=ay.ins;have dv:l7 od td H H4:=(l7.of X).trans o4;have ad:=i0 (W.take i) hO;have bi:=cT hx;have k:=a0.1 x.1;have dK:(bA m' x.1).length<=n:=by rw[k];exact oT (ad.nd x.1) λp hp=>⟨(ad.in_ x.1 p hp).1,(ad.in_ x.1 p hp).2.1⟩
    have ey:=qU (W.take i) hO;have ej:n*(W.take i).length<=1000*5:=Nat.mul_le_mul hn (by rw[ji];lia);refine⟨b,U rfl ⟨DV dv hT.own hT.tak hb,rfl,_,U rfl (aq ⟨_,U rfl (aq ⟨rfl,?_⟩)⟩)⟩⟩;refine U rfl ⟨.inl ⟨rfl,_,aX.of u⟩,lj ec rfl rfl (U rfl (U rfl ⟨t,od,td,n,g,J,m',x.1,kv,x.2,rfl,ay,eJ dv hT.own hT.tak hk,dt,by lia,λp hp=>?_,by rw[k];exact ad.nd x.1,λl f H5 o5 ez dT bt G L=>?_⟩))⟩
    ·rw[k]at hp;obtain⟨p0,p1,p2⟩:=ad.in_ x.1 p (List.mem_of_mem_drop hp);rw[a0.2 p p0 p1];exact p2
    ·have bx:=o5 _ _ u a3 a5;have I:∀y∈f,y.2.2≠.ref Z:=λy hy z=>by
      rcases G y hy with⟨y',b9,e⟩|⟨l',e,a8⟩
      ·exact a7 y' b9 (e.trans z)
      ·rw[e]at z;cases z;rw[u]at a8;cases a8
     have dV:(rD g ((bA m' x.1).drop x.2.toNat).reverse).length<=g.length:=EO _ _;have cc:ft H2 tk f:=a6.trans G (fresh H4 o4 (by rw[ay.own];simp) (by rw[ay.tak];simp));have aa:=a0.give x.1 kv x.2.toNat;rw[k]at dT L dV;refine⟨Z,l,_,U rfl ⟨rfl,bx,dT,by rw[b_,b_,ML,Mx,g8];rw[k]at dK;lia,?_⟩⟩;refine hN _ _ ⟨_,f,_,λc o e h1 h2=>?_,L.list bx I,by rw[bi,wQ];exact⟨aa,bc.give x.1 x.2.toNat⟩,cc,by omega,by omega,I,?_,λj y hj hy=>?_,_,_,_,rfl⟩
     ·rw[ao (λz=>by rw[z,ap]at e;cases e)];exact o5 _ _ (o4 c o e h1 h2) h1 h2
     ·rw[bi,pf,gg];exact ag
     ·rw[iz]
      split
      ·rename_i e;rcases Ng j i with ba|ba
       ·have h1:=al j y ba hy;rw[e,k]at h1;rw[ji];lia
       ·have:j=i:=by lia
        subst this;rw[hx]at hy;cases hy;rw[ji];lia
      ·rename_i e;rcases Ng j i with ba|ba
       ·exact al j y ba hy
       ·have:j=i:=by lia
        subst this;rw[hx]at hy;cases hy;exact absurd rfl e
   ·rintro σ H4⟨g,J,m',o4,ay,⟨a0,bc⟩,a6,dc,di,a7,u,al,v2,v4,v5,rfl⟩;rw[hH (by lia)]at a0 bc u;have ad:=i0 W hO;refine U rfl ⟨wl,rfl,⟨_,aX.of (o4 _ _ r ax.1 ax.2)⟩,?_⟩;refine qb (xs:=ts) (λi σ H'=>LP λM f m5=>LC (l7 od td H2 H') (eO P w K a.bS H' t od td n M f m5) ((ja n (du n (cN S W) (W.take i)) M m5/\uB (cS K H) n (du n (cN S W) (W.take i)) M)) (ft H2 tk f) ((∀x∈f,x.2.2≠.ref Z)) (H' Z=some (.lst ((dH S W).map V.int))) (f.length<=J.length+i) (M.length<=g.length+1000*i) ((∀j x,i<=j->W[j]?=some x->((bA m5 x.1).length:Int)<=x.2)) (FC λv4 v5=>σ=[some (.ref t),some (.ref wl),v2,some (.ref Z),v4,v5])) ⟨g,J,m',o4,ay,⟨a0,bc⟩,a6,a7,u,eN _,eN _,λj x _ hx=>al j x (by rw[c0];exact(d_.mp hx).1) hx,_,_,rfl⟩ (λi σ H' _ h=>by obtain⟨_,_,_,o,_⟩:=h;exact aX.of (o _ _ r ax.1 ax.2)) ?_ ?_
    ·rintro i v σ H5 hv⟨M,f,m5,o5,L,⟨aa,bl⟩,G,I,an,bt,d0,bz,v4,v5,rfl⟩N R B hN;have hi:i<ts.length:=(d_.mp hv).1;obtain⟨x,hx,b,kv,rfl,hb,hk⟩:=hW.get i v hv;have dt:=cA x (e_ hx);obtain⟨eG,ed⟩:=L.ins;have d1:l7 od td H H5:=(l7.of X).trans o5;have ci:=kD (W.take i) ad;have bi:=cT hx;have k:=aa.1 x.1;have dK:(bA m5 x.1).length<=n:=by rw[k];exact oT (ci.nd x.1) λp hp=>⟨(ci.in_ x.1 p hp).1,(ci.in_ x.1 p hp).2.1⟩
     have cp:=bz i x (eN _) hx;refine⟨b,U rfl ⟨DV d1 hT.own hT.tak hb,rfl,_,U rfl (aq ⟨_,U rfl (aq ⟨rfl,?_⟩)⟩)⟩⟩;refine lj ed rfl rfl (U rfl (U rfl ⟨t,od,td,n,M,f,m5,x.1,kv,x.2,rfl,L,eJ d1 hT.own hT.tak hk,hn,cp,by lia,by lia,by lia,λd2 H6 o6 ek b0 d3=>?_⟩));have ef:(x.2-((bA m5 x.1).length:Int)).toNat=x.2.toNat-(((du n (cN S W) (W.take i)).pl x.1).length):=by rw[<-k];lia
     rw[ef,aa.free,k]at d3;have dV:=vJ kv ((o9 n (du n (cN S W) (W.take i)).oc).take (x.2.toNat-(((du n (cN S W) (W.take i)).pl x.1).length))) M;have el:((o9 n (du n (cN S W) (W.take i)).oc).take (x.2.toNat-(((du n (cN S W) (W.take i)).pl x.1).length))).length<=1000:=by have:=JG n (du n (cN S W) (W.take i)).oc;rw[ji];omega
     have ei:=aa.took x.1 kv x.2.toNat;have d4:∀y∈d2,y.2.2≠.ref Z:=λy hy z=>by
      rcases b0 y hy with⟨y',b9,e⟩|⟨l',e,a8⟩
      ·exact I y' b9 (e.trans z)
      ·rw[e]at z;cases z;rw[an]at a8;cases a8
     refine hN _ _ ⟨_,d2,_,o5.trans o6,d3,by rw[bi,wf];exact⟨ei,bl.took x.1 hk x.2.toNat⟩,G.trans b0 (fresh H5 o5 (by rw[L.own];simp) (by rw[L.tak];simp)),d4,o6 _ _ an a3 a5,by omega,by omega,λj y hj hy=>?_,_,_,rfl⟩;rw[iz,ge (λz=>?_)]
     ·exact bz j y (by lia) hy
     ·have e1:(W.map (·.1))[j]?=some x.1:=by rw[f_,hy,<-z];rfl
      have e2:(W.map (·.1))[i]?=some x.1:=by rw[f_,hx];rfl
      have:=(K_ (d_.mp e1).1 d5).mp (e1.trans e2.symm);lia
    ·rintro σ H5⟨M,f,m5,o5,L,⟨aa,bl⟩,G,I,an,bt,d0,_,v4,v5,rfl⟩;rw[hH (by lia)]at aa bl;exact U rfl (q Z M f m5 H5 ((l7.of X).trans o5) L aa bl c2 an (ft.trans (ft.refl H tk) G λl hl=>X.free hl) I (by lia) (by lia))
end
abbrev gd(ns:Ob)(k:Nat):Int:=ns.getD k 0
def Aj(c gs:Ob):Nat->Nat|0=>0|n+1=>if gd c (n+1)*(gd gs (Aj c gs n)+1)>gd c (Aj c gs n)*(gd gs (n+1)+1)then n+1 else Aj c gs n
theorem wR(c gs:Ob):∀n,Aj c gs n<=n
 |0=>eN _|n+1=>by
  have:=wR c gs n;unfold Aj
  split<;>lia
def deal(c:Ob):Nat->List Int|0=>List.replicate c.length 0|n+1=>(deal c n).set (Aj c (deal c n) (c.length-1)) (gd (deal c n) (Aj c (deal c n) (c.length-1))+1)
theorem lY(c:Ob):∀n,(deal c n).length=c.length|0=>by simp[deal]|n+1=>by rw[deal,r3,lY c n]
def JD(ns:Ob)(i j:Nat)(v:Int)(h:i<ns.length):gd (ns.set i v) j=if i=j then v else gd ns j:=by
 unfold gd;rw[t2,t2,MV]
 by_cases e:i=j
 ·rw[gn e,gn e];simp[h]
 ·rw[ge e,ge e]
theorem wS(c:Ob):∀n k,0<=gd (deal c n) k/\gd (deal c n) k<=n
 |0,k=>by
  have e:gd (deal c 0) k=0:=by
   unfold gd deal;rw[t2,List.getElem?_replicate]
   split<;>rfl
  rw[e];exact⟨Nv _,by exact Nv _⟩|n+1,k=>by
  have b:=wS c n
  by_cases h0:c.length=0
  ·have:(deal c (n+1)).length=0:=by rw[lY,h0]
   have e:=oi.mp this;rw[e];exact⟨Nv _,by show(0:Int)<=_;exact hY _⟩
  ·have hl:=wR c (deal c n) (c.length-1);rw[deal,JD _ _ _ _ (by rw[lY];lia)]
   split
   ·have:=b (Aj c (deal c n) (c.length-1));lia
   ·have:=b k;lia
inductive ID(K:N1)(vs:List V)(H:Hp)(Q:VK)(_E:XK):Prop|mk(wt gl:Addr)(ws gs:Ob)(_:vs=[.ref wt,.ref gl])(_:bd K H wt (ws.map V.int))(_:aX K H gl (gs.map V.int))(_:gs.length=ws.length)(_:0<ws.length)(_:ws.length<=4)(_:(∀k,0<=gd gs k/\gd gs k<=2000))(_:Q (.int (Aj ws gs (ws.length-1):Nat)) H)
inductive F7(K:N1)(vs:List V)(H:Hp)(Q:VK)(_E:XK):Prop|mk(n:Nat)(wt:Addr)(ws:Ob)(_:vs=[.int n,.ref wt])(_:n<=2000)(_:bd K H wt (ws.map V.int))(_:0<ws.length)(_:ws.length<=4)(_:∀t H',am H H'->H' t=some (.tup ((deal ws n).map V.int))->Q (.ref t) H')
section
def yc(T:Txt K mg a):aQ P w K mg base dB 1 a.ki.x a.ki.d ["weights","given"] (ID K):=by
 refine T.ki.ok je λl A outer s H t Q E u h=>?_
 ·obtain⟨m,gl,b,gs,rfl,c,g,j,y,l4,k,q⟩:=h;refine⟨_,(af (bj 2 je.nd ae) (af (dJ k_ rfl (vw rfl T.dA (ac ae (ac (au (aG K rfl) (by rfl) T.bo L2.aK (ac (Y 0) O)) O))) (qF 3 je.nd) (ah (aL (aD qG (aA eR (dg K (Y 0) (Y 3)) (aA bQ (gB K (Y 1) (Y 2)) ae)) (aA eR (dg K (Y 0) (Y 2)) (aA bQ (gB K (Y 1) (Y 3)) ae)) (aF _)) (ah (bj 2 je.nd (Y 3))) aC))) (ah (az (Y 2))))),?_⟩
  refine U rfl ⟨_,b.length,rfl,.inr ⟨_,c,by simp⟩,_,U rfl ⟨⟨by decide,by decide,by exact hY _,by lia⟩,?_⟩⟩;refine gJ (lo:=1) (n:=((b.length:Int)-1).toNat) (λi f H'=>H=H'/\∃v,f=[some (.ref m),some (.ref gl),some (.int (Aj b gs i:Nat)),v]) ⟨rfl,_,rfl⟩ ?_ ?_
  ·rintro i f _ hi⟨rfl,v,rfl⟩;have hd:=wR b gs i;have o:0<=gs.getD (Aj b gs i) 0/\gs.getD (Aj b gs i) 0<=2000:=k (Aj b gs i);have p:0<=gs.getD (i+1) 0/\gs.getD (i+1) 0<=2000:=k (i+1);have r:((1:Int)+(i:Int))=((i+1:Nat):Int):=by lia
   refine U rfl (U rfl (rX c (my (by exact hY _) (by omega)) (U rfl (U rfl (rX g (my (by exact hY _) (by omega)) (r2 (r2 ?_)))))));refine⟨.inr ⟨?_,?_⟩,?_⟩
   ·simp only[kt];lia
   ·simp only[kt];lia
   refine U rfl (U rfl (rX c (my (by exact hY _) (by omega)) (U rfl (U rfl (rX g (my (by exact hY _) (by omega)) (r2 (r2 ?_)))))));rw[r];refine⟨.inr ⟨?_,?_⟩,?_⟩
   ·simp only[kt];lia
   ·simp only[kt];lia
   refine r2 (U rfl ?_);simp only[kt];refine iZ (λh=>?_) (λh=>?_)
   ·refine U rfl ⟨rfl,some (.int ((i+1:Nat):Int)),?_⟩;rw[Aj,gn h];rfl
   ·refine⟨rfl,some (.int ((i+1:Nat):Int)),?_⟩;rw[Aj,ge h];rfl
  ·rintro f _⟨rfl,v,rfl⟩;have e:((b.length:Int)-1).toNat=b.length-1:=by lia
   rw[e];exact U rfl q
def DS(T:Txt K mg a):aQ P w K mg base dB 2 a.vP.x a.vP.d ["total","weights"] (F7 K):=by
 refine T.vP.ok nZ λB A outer s H M Q E C h=>?_
 ·obtain⟨n,f,b,rfl,hn,y,D,l4,q⟩:=h;refine⟨_,(af (bj 2 nZ.nd (aA DO (bu (ac ae O)) (au (aG K rfl) (by rfl) T.bo L2.aK (ac (Y 1) O)))) (af (dJ k_ rfl (cC rfl T.dA (ac (Y 0) O)) (qF 3 nZ.nd) (af (bj 4 nZ.nd (pc T.ki (yc T) C (ac (Y 1) (ac (Y 2) O)))) (ah (kM (aA bQ (gB K (Y 2) (Y 4)) ae) (kN (Y 2) (Y 4) Dw))))) (ah (az (dL (fZ K rfl) (by rfl) T.eM L2.ce (ac (Y 2) O)))))),?_⟩
  refine⟨ls rfl,λl hl=>?_⟩;have j:bd K (aJ H l (.lst [.int 0])) f (b.map V.int):=am.tseq (aj (am.refl H) hl) y;refine U rfl ⟨_,b.length,rfl,.inr ⟨_,j,by simp⟩,l,_,U rfl ⟨rfl,ag,by exact hY _,by lia,df (by simp;lia),λg hg=>?_⟩⟩;have F:am H (aJ (aJ H l (.lst [.int 0])) g (.lst (List.replicate (b.length:Int).toNat [V.int 0]).flatten)):=aj (aj (am.refl H) hl) hg;have G:(List.replicate (b.length:Int).toNat [V.int 0]).flatten=(deal b 0).map V.int:=by
   rw[kt,deal,List.map_replicate];generalize b.length=m
   induction m with|zero=>rfl|succ m I=>rw[pv,y2,I,pv];rfl
  have o:H g=none:=(Jk hg).2;refine U rfl ⟨(n:Int),rfl,by exact hY _,by lia,?_⟩;refine gJ (lo:=0) (n:=(n:Int).toNat) (λi p H'=>am H H'/\H' g=some (.lst ((deal b i).map V.int))/\(FC λr u=>p=[some (.int n),some (.ref f),some (.ref g),r,u])) ⟨F,by rw[ag,G],_,_,rfl⟩ ?_ ?_
  ·rintro i p J hi⟨e,c,r,u,rfl⟩;have z:=wS b i;have hd:=wR b (deal b i) (b.length-1);have v:=lY b i;refine U rfl (U rfl ⟨f,g,b,deal b i,rfl,am.tseq e y,aX.of c,v,D,l4,λk=>⟨(z k).1,by have:=(z k).2;lia⟩,?_⟩);refine U rfl (U rfl (rX (aX.of c) (my (by exact hY _) (by lia)) (r2 ?_)));refine U rfl (U rfl ⟨g,_,_,U rfl ⟨rfl,c,G0 (by exact hY _) (by simp;lia),?_⟩⟩);refine⟨bM e o,?_,_,_,rfl⟩;rw[ag];simp only[kt];rw[yw];rfl
  ·rintro p J⟨e,c,r,u,rfl⟩;refine U rfl ⟨g,U rfl (.inl ⟨aX.of c,λt L=>?_⟩)⟩;exact q t _ (aj e L) ag
end
inductive xz(C:Addr)(vs:List V)(H:Hp)(Q:VK)(_E:XK):Prop|mk(t dx ar ru sh:Addr)(hm:Str)(_:vs=[.ref t,.str hm,.ref ar,.ref ru,.ref sh])(_:H t=some (.ins C dx []))(_:∀(ba:Addr)H',H ba=none->(∀b o,H b=some o->b≠t->H' b=some o)->H' t=some (.ins C dx [("home",.str hm),("arms",.ref ar),("rule",.ref ru),("shuts",.ref sh),("paused",.bl false),("closed",.bl false),("barred",.ref ba)])->H' ba=some (.dK [])->Q .non H')
section
def re(T:Txt K mg a):aQ P w K mg base dB 1 a.d7.x a.d7.d ["self","home","arms","rule","shuts"] (xz a.fH):=by
 refine T.d7.ok qW λk A outer s H m Q E n h=>?_
 ·obtain⟨t,dx,ar,ru,sh,hm,rfl,l,q⟩:=h;refine⟨_,(af (cG K rfl (Y 0) (Y 1)) (af (cG K rfl (Y 0) (Y 2)) (af (cG K rfl (Y 0) (Y 3)) (af (cG K rfl (Y 0) (Y 4)) (af (cG K rfl (Y 0) dS) (af (cG K rfl (Y 0) dS) (ah (cG K rfl (Y 0) kd)))))))),?_⟩
  refine U rfl (U rfl ⟨t,_,dx,U rfl ⟨l,T.bf,T.fE,by simp,?_⟩⟩);rw[show gj "home" (V.str hm) []=([("home",V.str hm)]:List (Str×V))from rfl];refine U rfl (U rfl ⟨t,_,dx,U rfl ⟨ag,T.bf,T.fF,by simp,?_⟩⟩);rw[gU,show gj "arms" (V.ref ar) [("home",V.str hm)]=([("home",V.str hm),("arms",V.ref ar)]:List (Str×V))from rfl];refine U rfl (U rfl ⟨t,_,dx,U rfl ⟨ag,T.bf,T.mW,by simp,?_⟩⟩);rw[gU,show gj "rule" (V.ref ru) [("home",V.str hm),("arms",V.ref ar)]=([("home",V.str hm),("arms",V.ref ar),("rule",V.ref ru)]:List (Str×V))from rfl];refine U rfl (U rfl ⟨t,_,dx,U rfl ⟨ag,T.bf,T.lS,by simp,?_⟩⟩);rw[gU,show gj "shuts" (V.ref sh) [("home",V.str hm),("arms",V.ref ar),("rule",V.ref ru)]=([("home",V.str hm),("arms",V.ref ar),("rule",V.ref ru),("shuts",V.ref sh)]:List (Str×V))from rfl];refine U rfl ⟨t,_,dx,U rfl ⟨ag,T.bf,T.ij,by simp,?_⟩⟩;rw[gU,show gj "paused" (V.bl false) [("home",V.str hm),("arms",V.ref ar),("rule",V.ref ru),("shuts",V.ref sh)]=([("home",V.str hm),("arms",V.ref ar),("rule",V.ref ru),("shuts",V.ref sh),("paused",V.bl false)]:List (Str×V))from rfl];refine U rfl ⟨t,_,dx,U rfl ⟨ag,T.bf,T.eB,by simp,?_⟩⟩;rw[gU,show gj "closed" (V.bl false) [("home",V.str hm),("arms",V.ref ar),("rule",V.ref ru),("shuts",V.ref sh),("paused",V.bl false)]=([("home",V.str hm),("arms",V.ref ar),("rule",V.ref ru),("shuts",V.ref sh),("paused",V.bl false),("closed",V.bl false)]:List (Str×V))from rfl];refineλf c=>?_;have i:t≠f:=λz=>by rw[<-z,ag]at c;cases c
  refine U rfl ⟨t,_,dx,U rfl ⟨by rw[ao i];exact ag,T.bf,T.ik,by simp,?_⟩⟩;rw[show gj "barred" (V.ref f) [("home",V.str hm),("arms",V.ref ar),("rule",V.ref ru),("shuts",V.ref sh),("paused",V.bl false),("closed",V.bl false)]=([("home",V.str hm),("arms",V.ref ar),("rule",V.ref ru),("shuts",V.ref sh),("paused",V.bl false),("closed",V.bl false),("barred",V.ref f)]:List (Str×V))from rfl];have g:H f=none:=by rw[ao (mu i)]at c;exact c
  refine q f _ g (λb o e j=>?_) ag (by rw[ao (mu i)];exact ag);rw[ao j,ao (aH e g),ao j];exact e
end
inductive xB(P:N6)(w:World)(K:N1)(C D:Addr)(vs:List V)(H:Hp)(Q:VK)(_E:XK):Prop|mk(t dx:Addr)(z:Int)(n:Nat)(_:vs=[.ref t,.int z,.int n])(_:H t=some (.ins C dx []))(_:∀(tb od td iu:Addr)H',H tb=none->H od=none->H td=none->H iu=none->od≠iu->(∀b o,H b=some o->b≠t->H' b=some o)->H' t=some (.ins C dx [("slope",.int z),("table",.ref tb),("inside",.ref iu)])->eO P w K D H' tb od td n [] [] []->H' iu=some (.dK [])->Q .non H')
section
def rg(T:Txt K mg a):aQ P w K mg base dB 3 a.eg.x a.eg.d ["self","slope","many"] (xB P w K a.eY a.bS):=by
 refine T.eg.ok qY λZ A outer s H vs Q E hr h=>?_
 ·obtain⟨t,dx,z,n,rfl,hT,q⟩:=h;refine⟨_,(af (cG K rfl (Y 0) (Y 1)) (af (cG K rfl (Y 0) (rP T.Ea ((rf (P:=P) (w:=w) T).mono (by decide)) hr rfl T.GR T.ee.b .nil bq (ac (Y 2) O))) (ah (cG K rfl (Y 0) kd)))),?_⟩
  refine U rfl (U rfl ⟨t,_,dx,U rfl ⟨hT,T.bO,T.gt,by simp,?_⟩⟩);rw[show gj "slope" (V.int z) []=([("slope",V.int z)]:List (Str×V))from rfl];have f1:∀b o,H b=some o->b≠t->aJ H t (.ins a.eY dx [("slope",V.int z)]) b=some o:=λb o e m=>by rw[ao m];exact e
  have g:aJ H t (.ins a.eY dx [("slope",V.int z)]) t=some (.ins a.eY dx [("slope",V.int z)]):=ag;have y:∀b,aJ H t (.ins a.eY dx [("slope",V.int z)]) b=none->H b=none:=λb e=>by
   by_cases h:b=t
   ·rw[h,ag]at e;cases e
   ·rw[ao h]at e;exact e
  generalize aJ H t (.ins a.eY dx [("slope",V.int z)])=k at f1 g y⊢;refine U rfl (λc ty i G I=>?_);have f2:∀b o,k b=some o->aJ (aJ k ty (.own c)) c (.ins a.bS ty []) b=some o:=λb o e=>by rw[ao (aH e i),ao (aH e G)];exact e
  have B:aJ (aJ k ty (.own c)) c (.ins a.bS ty []) c=some (.ins a.bS ty []):=ag;have C:aJ (aJ k ty (.own c)) c (.ins a.bS ty []) ty=some (.own c):=by rw[ao I];exact ag
  generalize aJ (aJ k ty (.own c)) c (.ins a.bS ty [])=H2 at f2 B C⊢;refine⟨c,ty,n,rfl,B,C,λW X D p r f3 f=>⟨rfl,?_⟩⟩;have n1:∀b,H2 b=none->k b=none:=λb e=>by cases z:k b with|none=>rfl|some o=>rw[f2 b o z]at e;cases e
  have u:∀b o,k b=some o->D b=some o:=λb o e=>f3 b o (f2 b o e) (aH e i);have J:=u _ _ g;refine U rfl ⟨t,_,dx,U rfl ⟨J,T.bO,T.dN,by simp,?_⟩⟩;rw[show gj "table" (V.ref c) [("slope",V.int z)]=([("slope",V.int z),("table",V.ref c)]:List (Str×V))from rfl];refineλv l=>?_;have L:t≠v:=λz=>by rw[<-z,ag]at l;cases l
  have j:D v=none:=by rw[ao (mu L)]at l;exact l
  refine U rfl ⟨t,_,dx,U rfl ⟨by rw[ao L];exact ag,T.bO,T.cq,by simp,?_⟩⟩;rw[show gj "inside" (V.ref v) [("slope",V.int z),("table",V.ref c)]=([("slope",V.int z),("table",V.ref c),("inside",V.ref v)]:List (Str×V))from rfl];have n3:∀b,D b=none->k b=none:=λb e=>by cases z:k b with|none=>rfl|some o=>rw[u b o z]at e;cases e
  have F:∀b o,D b=some o->b≠t->aJ (aJ (aJ D t (.ins a.eY dx [("slope",V.int z),("table",V.ref c)])) v (.dK [])) t (.ins a.eY dx [("slope",V.int z),("table",V.ref c),("inside",V.ref v)]) b=some o:=λb o e m=>by rw[ao m,ao (aH e j),ao m];exact e
  have M:c≠t:=λz=>by rw[z,g]at i;cases i
  have N:W≠t:=λz=>by rw[z,f2 _ _ g]at p;cases p
  have R:X≠t:=λz=>by rw[z,f2 _ _ g]at r;cases r
  refine q c W X v _ (y _ i) (y _ (n1 _ p)) (y _ (n1 _ r)) (y _ (n3 _ j)) (aH f.own j) (λb o e m=>F b o (u b o (f1 b o e m)) m) ag ?_ (by rw[ao (mu L)];exact ag);obtain⟨S,hI⟩:=f.ins;exact⟨⟨S,F _ _ hI M⟩,F _ _ f.own N,F _ _ f.tak R,λx hx=>(by cases hx),.nil⟩
end
inductive xC(C:Addr)(vs:List V)(H:Hp)(Q:VK)(_E:XK):Prop|mk(t dx:Addr)(z sa:Int)(_:vs=[.ref t,.int z,.int sa])(_:H t=some (.ins C dx []))(_:(2<=z/\z<=997))(_:(∀i:Nat,2+(i:Int)<z->z%(2+(i:Int))≠0))(_:(0<=sa/\sa<=dw))(_:∀(ln tn ci dl:Addr)H',H ln=none->H tn=none->H ci=none->H dl=none->ln≠tn->ln≠ci->tn≠ci->(∀b o,H b=some o->b≠t->H' b=some o)->H' t=some (.ins C dx [("own_prime",.int z),("own_salt",.int sa),("layer_named",.ref ln),("trial_named",.ref tn),("came_into",.ref ci),("deeds",.ref dl)])->H' ln=some (.dK [])->H' tn=some (.dK [])->H' ci=some (.dK [])->H' dl=some (.lst [])->Q .non H')
def nL(t:Addr)(H H':Hp):Prop:=∀b o,H b=some o->b≠t->H' b=some o
def nL.no{t a:Addr}(h:nL t H H')(e:H' a=none)(n:a≠t):H a=none:=by cases z:H a with|none=>rfl|some o=>rw[h a o z n]at e;cases e
@[elab_as_elim]theorem gA{H:Hp}{a:Addr}{o:HO}{motive:Hp->Prop}(c:H a=none)(h:∀H',am H H'->H' a=some o->motive H'):motive (aJ H a o):=h _ (aj (am.refl H) c) ag
@[elab_as_elim]theorem BF{H:Hp}{t:Addr}{o:HO}{motive:Hp->Prop}(h:∀H',nL t H H'->H' t=some o->motive H'):motive (aJ H t o):=h _ (λ_ _ e n=>by rw[ao n];exact e) ag
section
def rn(T:Txt K mg a):aQ P w K mg base dB 5 a.eu.x a.eu.d ["self","prime","salt"] (xC a.cp):=by
 refine T.eu.ok q9 λaa A outer s H vs Q E hr h=>?_
 ·obtain⟨t,dx,z,sa,rfl,k,h1,h2,h3,q⟩:=h;refine⟨_,(af (aR (pc T.fX (tR T) hr (ac (Y 1) (ac (Y 2) O)))) (af (cG K rfl (Y 0) (Y 1)) (af (cG K rfl (Y 0) (Y 2)) (af (cG K rfl (Y 0) kd) (af (cG K rfl (Y 0) kd) (af (cG K rfl (Y 0) kd) (ah (cG K rfl (Y 0) (bu O))))))))),?_⟩
  refine U rfl (U rfl ⟨z,sa,rfl,h1,h2,h3,λH0 v=>?_⟩);refine U rfl (U rfl ⟨t,_,dx,U rfl ⟨v _ _ k,T.aB,T.bW,by simp,?_⟩⟩);refine BF λH1 o1 t1=>?_;refine U rfl (U rfl ⟨t,_,dx,U rfl ⟨t1,T.aB,T.jw,(show 1<1000 by decide),?_⟩⟩);refine BF λH2 o2 B=>?_;refineλln g=>gA g λH3 C e3=>?_;refine U rfl ⟨t,_,dx,U rfl ⟨C _ _ B,T.aB,T.aP,(show 2<1000 by decide),?_⟩⟩;refine BF λl m D=>?_;refineλtn f=>gA f λH5 F e5=>?_;refine U rfl ⟨t,_,dx,U rfl ⟨F _ _ D,T.aB,T.aO,(show 3<1000 by decide),?_⟩⟩;refine BF λp G I=>?_;refineλJ c=>gA c λH7 L e7=>?_;refine U rfl ⟨t,_,dx,U rfl ⟨L _ _ I,T.aB,T.dY,(show 4<1000 by decide),?_⟩⟩;refine BF λr M N=>?_;refine⟨ls rfl,λdl i=>gA i λH9 R e9=>?_⟩;refine U rfl ⟨t,_,dx,U rfl ⟨R _ _ N,T.aB,T.lT,(show 5<1000 by decide),?_⟩⟩;refine BF λS V ta=>?_;have n1:ln≠t:=λy=>by rw[y,B]at g;cases g
  have n2:tn≠t:=λy=>by rw[y,D]at f;cases f
  have n3:J≠t:=λy=>by rw[y,I]at c;cases c
  have n4:dl≠t:=λy=>by rw[y,N]at i;cases i
  have W:nL t H H2:=λb o e n=>o2 b o (o1 b o (v b o e) n) n;have p4:nL t H3 l:=m;have X:nL t H l:=λb o e n=>m b o (C b o (W b o e n)) n;have Z:nL t l p:=λb o e n=>G b o (F b o e) n;have u:nL t p r:=λb o e n=>M b o (L b o e) n;have j:nL t r S:=λb o e n=>V b o (R b o e) n;have k6:nL t H p:=λb o e n=>Z b o (X b o e n) n;have k8:nL t H r:=λb o e n=>u b o (k6 b o e n) n;have l4:=m _ _ e3 n1;have l6:=Z _ _ l4 n1;have l8:=u _ _ l6 n1;have m6:=G _ _ e5 n2;have m8:=u _ _ m6 n2;exact q ln tn J dl S (W.no g n1) (X.no f n2) (k6.no c n3) (k8.no i n4) (aH l4 f) (aH l6 c) (aH m6 c) (λb o e n=>j b o (k8 b o e n) n) ta (j _ _ l8 n1) (j _ _ m8 n2) (j _ _ (M _ _ e7 n3) n3) (V _ _ e9 n4)
end
def AO(c:Nat):Int:=Txt.find jI ⟨#[c]⟩
def wH(m:Int)(cs:N_):Int:=cs.foldl (λm c=>1009*m+AO c+1) m
def Ed{m:Int}{cs:N_}{i c:Nat}(h:cs[i]?=some c):wH m (cs.take (i+1))=1009*wH m (cs.take i)+AO c+1:=by unfold wH;rw[rr,h,u6];rfl
def Ji{c:Nat}(h:c∈jI.cps.toList):∃i r,Builtin.Str.occurrences jI ⟨#[c]⟩ 0 jI.length 1=i::r/\AO c=(i:Nat):=by have e:=StrLaws.found_one jI c;rw[il h]at e;cases q:Builtin.Str.occurrences jI ⟨#[c]⟩ 0 jI.length 1 with|nil=>rw[q]at e;cases e|cons i r=>refine⟨i,r,rfl,?_⟩;unfold AO Txt.find;rw[q]
def uM(p m sl:Int)(x:Str):Int:=if sl=p then wH m x.cps.toList%(p*p)%p else(wH m x.cps.toList%(p*p)/p+sl*(wH m x.cps.toList%(p*p)%p))%p
inductive FW(vs:List V)(H:Hp)(Q:VK)(_E:XK):Prop|mk(p:_)(m:_)(x:_)(_:vs=[.int p,.int m,.str x])(_:Be x)(_:(2<=p/\p<=997))(_:∀t,H t=none->Q (.ref t) (aJ H t (.tup [.int (wH m x.cps.toList%(p*p)/p),.int (wH m x.cps.toList%(p*p)%p)])))
inductive FY(K:N1)(vs:List V)(H:Hp)(Q:VK)(_E:XK):Prop|mk(t:Addr)(p s x y:Int)(_:vs=[.int p,.int s,.ref t])(_:bd K H t [.int x,.int y])(_:0<p)(_:(0<=s/\s<=1000))(_:Q (.int (if s=p then y else(x+s*y)%p)) H)
inductive Bu(a:ic)(vs:List V)(H:Hp)(Q:VK)(_E:XK):Prop|mk(h lo dx dl:Addr)(fs gs:List (Str×V))(p m sl:Int)(x:Str)(_:vs=[.ref h,.ref lo,.str x])(_:H h=some (.ins a.cp dx fs))(_:fs.lookup ("own_prime":Str)=some (V.int p))(_:fs.lookup ("own_salt":Str)=some (V.int m))(_:H lo=some (.ins a.eY dl gs))(_:gs.lookup ("slope":Str)=some (V.int sl))(_:Be x)(_:(2<=p/\p<=997))(_:(0<=sl/\sl<=1000))(_:∀H',am H H'->Q (.int (uM p m sl x)) H')
section
def x9(T:Txt K mg a):aQ P w K mg base dB 1 a.j9.x a.j9.d ["p","salt","guest"] FW:=by
 refine T.j9.ok jd λg A outer s H l Q E n h=>?_
 ·obtain⟨p,m,x,rfl,hg,⟨b,o⟩,q⟩:=h;refine⟨_,(af (bj 3 jd.nd (Y 1)) (af (dJ k_ rfl (DJ (Y 2)) (qF 4 jd.nd) (ah (bj 3 jd.nd (aA bQ (aA bQ (aA eR (cJ T.Hl rfl) (Y 3)) (ii K rfl PySem.F.plainAttrs_str PySem.F.slot_str_index PySem.F.type_str_index D7 (cJ T.m9 rfl) (ac (Y 4) O))) ae)))) (ah (az (au yY (by rfl) T.D4 L2.y8 (ac (aA aS (Y 3) (aA eR (Y 0) (Y 0))) (ac (Y 0) O))))))),?_⟩
  refine U rfl (U rfl ⟨x,rfl,?_⟩);refine Hf (λi e H'=>H=H'/\∃v,e=[some (.int p),some (.int m),some (.str x),some (.int (wH m (x.cps.toList.take i))),v]) ⟨rfl,_,rfl⟩ ?_ ?_
  ·rintro i c e _ hc⟨rfl,v,rfl⟩;obtain⟨j,r,k,hn⟩:=Ji (hg.cs c (e_ hc));refine U rfl (r2 ⟨.inl ⟨by decide,by decide⟩,rfl,U rfl ⟨jI,_,j,r,rfl,rfl,k,_,U rfl ⟨rfl,r2 ⟨rfl,some (.str ⟨#[c]⟩),?_⟩⟩⟩⟩);rw[Ed hc,hn];rfl
  ·rintro e _⟨rfl,v,rfl⟩;rw[hH (eN _)];have f:(0:Int)<p*p:=Int.mul_pos (by exact NL b) (by exact NL b);exact U rfl (U rfl (U rfl (r2 ⟨.inl ⟨by lia,by lia⟩,_,U rfl ⟨rfl,f,U rfl ⟨_,U rfl ⟨⟨by exact NL b,by lia⟩,q⟩⟩⟩⟩)))
def yb(T:Txt K mg a):aQ P w K mg base dB 1 a.ka.x a.ka.d ["p","slope","point"] (FY K):=by
 refine T.ka.ok lz λc A outer s H f Q E g h=>?_
 ·obtain⟨t,p,s,x,y,rfl,b,e,⟨i,j⟩,q⟩:=h;refine⟨_,(af (bj 3 lz.nd (dg K (Y 2) ae)) (af (bj 4 lz.nd (dg K (Y 2) ae)) (af (aL (aD aT (Y 1) (Y 0) (aF _)) (ah (az (Y 4))) aC) (ah (az (aA aS (aA bQ (Y 3) (aA eR (Y 1) (Y 4))) (Y 0))))))),?_⟩
  (iterate 2 refine U rfl (rX b rfl ?_));refine U rfl (U rfl ⟨rfl,U rfl (kj (λh=>?_) (λh=>?_))⟩)
  ·rw[gn h]at q;exact U rfl q
  ·rw[ge h]at q;exact U rfl (U rfl (U rfl (r2 ⟨.inl ⟨by lia,by lia⟩,_,U rfl ⟨rfl,U rfl (r2 ⟨e,q⟩)⟩⟩)))
def jr(T:Txt K mg a):aQ P w K mg base dB 2 a.cj.x a.cj.d ["self","layer","guest"] (Bu a):=by
 refine T.cj.ok og λf A outer s H r Q E c h=>?_
 ·obtain⟨h,lo,dx,dl,fs,gs,p,m,sl,x,rfl,b,e,g,i,j,k,l,n,q⟩:=h;refine⟨_,(ah (az (pc T.ka (yb T) c (ac (aI K rfl (Y 0)) (ac (aI K rfl (Y 1)) (ac (pc T.j9 (x9 T) c (ac (aI K rfl (Y 0)) (ac (aI K rfl (Y 0)) (ac (Y 2) O)))) O)))))),?_⟩;refine U rfl ⟨h,_,dx,_,U rfl ⟨b,T.aB,T.bW,e,U rfl ⟨lo,_,dl,_,U rfl ⟨i,T.bO,T.gt,j,U rfl ⟨h,_,dx,_,U rfl ⟨b,T.aB,T.bW,e,U rfl ⟨h,_,dx,_,U rfl ⟨b,T.aB,T.jw,g,U rfl ⟨p,m,x,rfl,k,l,λt o=>?_⟩⟩⟩⟩⟩⟩⟩⟩⟩;exact⟨t,p,sl,_,_,rfl,bd.of ag,by lia,n,q _ (aj (am.refl H) o)⟩
end
abbrev aV(x y:Str):bC:=.inr [.inr x,.inr y]
structure cP where
 nm:Str
 sl:Int
 S:AS
 ins:List (Str×Str×Str)
structure dq where
 nm:Str
 home:Str
 arms:List Str
 rule:Ru
 shuts:List Str
 pau:Bool
 clo:Bool
 bar:List Str
structure bU where
 p:Nat
 salt:Int
 las:List cP
 trs:List dq
 came:List (Str×List (Str×Str))
inductive Ro|hh|ln|tn|ci|dl|lo(i:Nat)|iu(i:Nat)|tb(i:Nat)|od(i:Nat)|td(i:Nat)|tr(i:Nat)|ba(i:Nat)deriving DecidableEq
structure ZS where
 G:Ro->Addr
 dx:Ro->Addr
 cv:List (cu×V)ds:List V
 iv:Nat->List (cu×V)ow:Nat->List (cu×V)tk:Nat->List eX
 ar:Nat->Addr
 ru:Nat->V
 sh:Nat->Addr
def ju:List Str->(Nat->V)->List (cu×V)|[],_=>[]|n::r,f=>(.inr n,f 0)::ju r λi=>f (i+1)
def cont(P:N6)(w:World)(a:ic)(M:bU)(Z:ZS):Ro->Option HO|.hh=>some (.ins a.cp (Z.dx .hh) [("own_prime",.int M.p),("own_salt",.int M.salt),("layer_named",.ref (Z.G .ln)),("trial_named",.ref (Z.G .tn)),("came_into",.ref (Z.G .ci)),("deeds",.ref (Z.G .dl))])|.ln=>some (.dK (ju (M.las.map cP.nm) λi=>.ref (Z.G (.lo i))))|.tn=>some (.dK (ju (M.trs.map dq.nm) λi=>.ref (Z.G (.tr i))))|.ci=>some (.dK Z.cv)|.dl=>some (.lst Z.ds)|.lo i=>M.las[i]?.map λl=>.ins a.eY (Z.dx (.lo i)) [("slope",.int l.sl),("table",.ref (Z.G (.tb i))),("inside",.ref (Z.G (.iu i)))]|.iu i=>M.las[i]?.map λ_=>.dK (Z.iv i)|.tb i=>M.las[i]?.map λ_=>.ins a.bS (Z.dx (.tb i)) [("many",.int M.p),("owners",.ref (Z.G (.od i))),("taken",.ref (Z.G (.td i)))]|.od i=>M.las[i]?.map λ_=>.dK (Z.ow i)|.td i=>M.las[i]?.map λ_=>dM P w (Z.G (.td i)) (Z.tk i)|.tr i=>M.trs[i]?.map λt=>.ins a.fH (Z.dx (.tr i)) [("home",.str t.home),("arms",.ref (Z.ar i)),("rule",Z.ru i),("shuts",.ref (Z.sh i)),("paused",.bl t.pau),("closed",.bl t.clo),("barred",.ref (Z.G (.ba i)))]|.ba i=>M.trs[i]?.map λt=>.dK (t.bar.map λg=>(.inr g,.bl true))
def cg(K:N1)(H:Hp)(iv:List (cu×V))(ins:List (Str×Str×Str)):Prop:=Paired (λ(x:cu×V)(y:Str×Str×Str)=>x.1=.inr y.1/\∃s,x.2=.ref s/\bd K H s [.str y.2.1,.str y.2.2]) iv ins
def ip(K:N1)(H:Hp)(c:List V)(d:List (Str×Str)):Prop:=Paired (λ(u:V)(y:Str×Str)=>∃s,u=.ref s/\bd K H s [.str y.1,.str y.2]) c d
def eL(K:N1)(H:Hp)(dl:Addr)(cv:List (cu×V))(cm:List (Str×List (Str×Str))):Prop:=Paired (λ(x:cu×V)(y:Str×List (Str×Str))=>x.1=.inr y.1/\∃l b,x.2=.ref l/\l≠dl/\H l=some (.lst b)/\ip K H b y.2) cv cm
structure Im(dl:Addr)(H H':Hp):Prop where
 kp:Kp H H'
 ls:∀b xs,H b=some (.lst xs)->b≠dl->H' b=some (.lst xs)
section
variable{K:N1}{H a:Hp}{dl:Addr}
theorem Im.of(h:am H a):Im dl H a:=⟨.of h,λb c e _=>h b _ e⟩
def cg.kp(e:Kp H a)(h:cg K H iv ins):cg K a iv ins:=Paired.mapP h λ_ _ q=>⟨q.1,q.2.imp λ_ q=>⟨q.1,e.tq q.2⟩⟩
def ip.kp(e:Kp H a)(h:ip K H c d):ip K a c d:=Paired.mapP h λ_ _ q=>q.imp λ_ q=>⟨q.1,e.tq q.2⟩
def eL.im(e:Im dl H a)(h:eL K H dl cv cm):eL K a dl cv cm:=Paired.mapP h λ_ _ q=>⟨q.1,q.2.imp λ_ q=>q.imp λ_ q=>⟨q.1,q.2.1,e.ls _ _ q.2.2.1 q.2.1,q.2.2.2.kp e.kp⟩⟩
def fh.im(e:Im dl H a)(n:∀x∈tk,x.2.2≠.ref dl)(h:fh H tk m):fh a tk m:=Paired.mapM h λx b _ q=>⟨q.1,q.2.1,q.2.2.imp λ_ q=>⟨q.1,e.ls _ _ q.2 λz=>n x b (by rw[q.1,z])⟩⟩
end
structure bF(P:N6)(w:World)(K:N1)(a:ic)(H:Hp)(M:bU)(Z:ZS):Prop where
 inj:∀r r' o o',cont P w a M Z r=some o->cont P w a M Z r'=some o'->Z.G r=Z.G r'->r=r'
 at_:∀r o,cont P w a M Z r=some o->H (Z.G r)=some o
 seats:∀i l,M.las[i]?=some l->cg K H (Z.iv i) l.ins
 trs:∀i t,M.trs[i]?=some t->bd K H (Z.ar i) (t.arms.map V.str)/\fi K H t.rule (Z.ru i)/\bd K H (Z.sh i) (t.shuts.map V.str)tabs:∀i l,M.las[i]?=some l->dQ K H (Z.tk i)/\(∃m,fh H (Z.tk i) m/\ja M.p l.S (Z.ow i) m)/\uB (cS K H) M.p l.S (Z.ow i)/\∀x∈Z.tk i,x.2.2≠.ref (Z.G .dl)came:eL K H (Z.G .dl) Z.cv M.came
section
variable{P:N6}{w:World}{K:N1}{a:ic}{H H':Hp}{M s:bU}{Z c:ZS}
def bF.imm(h:bF P w K a H M Z)(e:cont P w a M Z r=some o)(f:∀b o,H b=some o->b≠Z.G r->H' b=some o):Im (Z.G .dl) H H':=by
 have g:=h.at_ r o e;have i:(∀d,o≠.tup d)/\(∀x y,o≠.frz x y)/\∀d,o=.lst d->r=.dl:=by
  cases r<;>simp only[cont,Option.map_eq_some_iff,MS]at e
  case hh=>subst e;exact⟨λ_ z=>(nomatch z),λ_ _ z=>(nomatch z),λ_ z=>(nomatch z)⟩
  case ln=>subst e;exact⟨λ_ z=>(nomatch z),λ_ _ z=>(nomatch z),λ_ z=>(nomatch z)⟩
  case tn=>subst e;exact⟨λ_ z=>(nomatch z),λ_ _ z=>(nomatch z),λ_ z=>(nomatch z)⟩
  case ci=>subst e;exact⟨λ_ z=>(nomatch z),λ_ _ z=>(nomatch z),λ_ z=>(nomatch z)⟩
  case dl=>subst e;exact⟨λ_ z=>(nomatch z),λ_ _ z=>(nomatch z),λ_ _=>rfl⟩
  all_goals obtain⟨_,_,e⟩:=e;subst e;exact⟨λ_ z=>(nomatch z),λ_ _ z=>(nomatch z),λ_ z=>(nomatch z)⟩
 obtain⟨j,k,l⟩:=i;refine⟨⟨λu d q=>f _ _ q λz=>?_,λu x⟨m,q⟩=>⟨m,f _ _ q λz=>?_⟩⟩,λb d q n=>f _ _ q λz=>?_⟩
 ·rw[z,g]at q;exact j _ (ir q)
 ·rw[z,g]at q;exact k _ _ (ir q)
 ·rw[z,g]at q;exact n (by rw[z,l _ (ir q)])
def bF.set(h:bF P w K a H M Z)(f:cont P w a M Z d=some C)(v:∀b o,H b=some o->b≠Z.G d->H' b=some o)(u:c.G=Z.G)(j:∀r o,cont P w a s c r=some o->(r=d/\H' (Z.G d)=some o)\/(r≠d/\cont P w a M Z r=some o))(seats:∀i l,s.las[i]?=some l->cg K H' (c.iv i) l.ins)(trs:∀i t,s.trs[i]?=some t->bd K H' (c.ar i) (t.arms.map V.str)/\fi K H' t.rule (c.ru i)/\bd K H' (c.sh i) (t.shuts.map V.str))(tabs:∀i l,s.las[i]?=some l->dQ K H' (c.tk i)/\(∃m,fh H' (c.tk i) m/\ja s.p l.S (c.ow i) m)/\uB (cS K H') s.p l.S (c.ow i)/\∀x∈c.tk i,x.2.2≠.ref (c.G .dl))(came:eL K H' (c.G .dl) c.cv s.came):bF P w K a H' s c:=by
 refine⟨λr y o A e B g=>?_,λr o e=>?_,seats,trs,tabs,came⟩
 ·rw[u]at g;rcases j r o e with⟨rfl,_⟩|⟨_,q⟩<;>rcases j y A B with⟨rfl,_⟩|⟨_,k⟩
  ·rfl
  ·exact h.inj _ _ _ _ f k g
  ·exact h.inj _ _ _ _ q f g
  ·exact h.inj _ _ _ _ q k g
 ·rw[u];rcases j r o e with⟨rfl,q⟩|⟨n,q⟩
  ·exact q
  ·exact v _ _ (h.at_ _ _ q) λz=>n (h.inj _ _ _ _ q f z)
def bF.trsI(h:bF P w K a H M Z)(e:Kp H H'):∀i t,M.trs[i]?=some t->bd K H' (Z.ar i) (t.arms.map V.str)/\fi K H' t.rule (Z.ru i)/\bd K H' (Z.sh i) (t.shuts.map V.str):=λi t b=>let⟨h1,h2,h3⟩:=h.trs i t b;⟨e.tq h1,h2.kp e,e.tq h3⟩
def bF.tabsI(h:bF P w K a H M Z)(e:Im (Z.G .dl) H H'):∀i l,M.las[i]?=some l->dQ K H' (Z.tk i)/\(∃m,fh H' (Z.tk i) m/\ja M.p l.S (Z.ow i) m)/\uB (cS K H') M.p l.S (Z.ow i)/\∀x∈Z.tk i,x.2.2≠.ref (Z.G .dl):=λi l hl=>let⟨h1,⟨m,h2,h3⟩,h4,h5⟩:=h.tabs i l hl;⟨λx b=>eF e.kp (h1 x b),⟨m,h2.im e h5,h3⟩,h4.mono λ_ _ q=>eF e.kp q,h5⟩
def bF.same(h:bF P w K a H M Z)(e:am H H'):bF P w K a H' M Z:=⟨h.inj,λr o q=>e _ _ (h.at_ r o q),λi l hl=>(h.seats i l hl).kp (.of e),h.trsI (.of e),h.tabsI (.of e),h.came.im (.of e)⟩
def gX{d l:Type}{g:List d}{i:Nat}{x y:d}(h:g[i]?=some x)(f:d->l)(e:f y=f x)(j:Nat):(g.set i y)[j]?.map f=g[j]?.map f:=by
 rw[MV]
 by_cases q:i=j
 ·subst q;rw[gn rfl,gn (d_.mp h).1,h];exact ri some e
 ·rw[ge q]
def eD{d l:Type}{g:List d}{i:Nat}{x y:d}(h:g[i]?=some x)(f:d->l)(e:f y=f x):(g.set i y).map f=g.map f:=sT λj=>by rw[f_,f_];exact gX h f e j
def nW{d:Type}{f:List d}{i j:Nat}{y z:d}(e:(f.set i y)[j]?=some z):(j=i/\z=y)\/(j≠i/\f[j]?=some z):=by
 rw[MV]at e
 by_cases q:i=j
 ·rw[gn q]at e
  split at e
  ·exact .inl ⟨q.symm,(ir e).symm⟩
  ·cases e
 ·rw[ge q]at e;exact .inr ⟨λz=>q z.symm,e⟩
def yR{i:Nat}{l l':cP}(hl:M.las[i]?=some l)(h1:l'.nm=l.nm)(h2:l'.sl=l.sl)(r:Ro):cont P w a {M with las:=M.las.set i l'} Z r=cont P w a M Z r:=by cases r with|ln=>exact ri (λns=>some (HO.dK (ju ns λi=>.ref (Z.G (.lo i))))) (eD hl cP.nm h1)|lo j=>exact gX hl _ (by rw[h2]) j|iu j=>exact gX (y:=l') hl _ rfl j|tb j=>exact gX (y:=l') hl _ rfl j|od j=>exact gX (y:=l') hl _ rfl j|td j=>exact gX (y:=l') hl _ rfl j|_=>rfl
def Fb{i:Nat}{t d:dq}(e:M.trs[i]?=some t)(h1:d.nm=t.nm)(r:Ro)(h2:r=.tr i->d.home=t.home/\d.pau=t.pau/\d.clo=t.clo)(h3:r=.ba i->d.bar=t.bar):cont P w a {M with trs:=M.trs.set i d} Z r=cont P w a M Z r:=by
 cases r with|tn=>exact ri (λns=>some (HO.dK (ju ns λi=>.ref (Z.G (.tr i))))) (eD e dq.nm h1)|tr j=>
  by_cases q:j=i
  ·subst q;obtain⟨a1,b,f⟩:=h2 rfl;exact gX e _ (by rw[a1,b,f]) j
  ·show((M.trs.set i d)[j]?).map _=_;rw[ol (λz=>q z.symm)];rfl|ba j=>
  by_cases q:j=i
  ·subst q;exact gX e _ (by rw[h3 rfl]) j
  ·show((M.trs.set i d)[j]?).map _=_;rw[ol (λz=>q z.symm)];rfl|_=>rfl
def cR:∀b o,H b=some o->b≠x->aJ H x o' b=some o:=λb o e n=>by rw[ao n];exact e
def bF.setIns(h:bF P w K a H M Z){i:Nat}{l:cP}{ins':List (Str×Str×Str)}{iv':List (cu×V)}(hl:M.las[i]?=some l)(g:cg K H iv' ins'):bF P w K a (aJ H (Z.G (.iu i)) (.dK iv')) {M with las:=M.las.set i {l with ins:=ins'}} {Z with iv:=λj=>if j=i then iv' else Z.iv j}:=by
 have f:cont P w a M Z (.iu i)=some (.dK (Z.iv i)):=by simp[cont,hl]
 have im:=h.imm f (cR (o':=.dK iv'));refine h.set f cR rfl (λr o e=>?_) (λj b e=>?_) (h.trsI im.kp) (λj b e=>?_) (h.came.im im)
 ·rw[yR (l':={l with ins:=ins'}) hl rfl rfl]at e
  by_cases d:r=.iu i
  ·subst d;refine .inl ⟨rfl,?_⟩;rw[ag,<-e];simp[cont,hl]
  ·refine .inr ⟨d,?_⟩;rw[<-e];cases r with|iu j=>show _=M.las[j]?.map λ_=>HO.dK (if j=i then iv' else Z.iv j);rw[ge λz=>d (by rw[z])];rfl|_=>rfl
 ·rcases nW e with⟨rfl,rfl⟩|⟨n,q⟩
  ·show cg K _ (if j=j then iv' else Z.iv j) ins';rw[gn rfl];exact g.kp im.kp
  ·show cg K _ (if j=i then iv' else Z.iv j) b.ins;rw[ge n];exact(h.seats j b q).kp im.kp
 ·rcases nW e with⟨rfl,rfl⟩|⟨n,q⟩
  ·exact h.tabsI im _ l hl
  ·exact h.tabsI im j b q
def bF.setTr(h:bF P w K a H M Z){i:Nat}{t t':dq}{r0:Ro}{o':HO}(d:M.trs[i]?=some t)(h1:t'.nm=t.nm)(h2:t'.arms=t.arms)(h3:t'.rule=t.rule)(h4:t'.shuts=t.shuts)(f:(r0=.tr i/\t'.bar=t.bar)\/(r0=.ba i/\t'.home=t.home/\t'.pau=t.pau/\t'.clo=t.clo))(l:cont P w a {M with trs:=M.trs.set i t'} Z r0=some o'):bF P w K a (aJ H (Z.G r0) o') {M with trs:=M.trs.set i t'} Z:=by
 obtain⟨g,k⟩:∃g,cont P w a M Z r0=some g:=by rcases f with⟨rfl,_⟩|⟨rfl,_⟩<;>exact⟨_,by simp only[cont,d];rfl⟩
 have im:=h.imm k (cR (o':=o'));refine h.set k cR rfl (λr o e=>?_) (λj m e=>(h.seats j m e).kp im.kp) (λj p e=>?_) (h.tabsI im) (h.came.im im)
 ·by_cases b:r=r0
  ·subst b;rw[l]at e;exact .inl ⟨rfl,by rw[ag];exact e⟩
  ·refine .inr ⟨b,?_⟩;rw[<-e];refine(Fb d h1 r (λz=>?_) λz=>?_).symm
   ·rcases f with⟨q,_⟩|⟨_,q⟩
    ·exact absurd (z.trans q.symm) b
    ·exact q
   ·rcases f with⟨_,q⟩|⟨q,_⟩
    ·exact q
    ·exact absurd (z.trans q.symm) b
 ·rcases nW e with⟨rfl,rfl⟩|⟨n,q⟩
  ·rw[h2,h3,h4];exact h.trsI im.kp _ t d
  ·exact h.trsI im.kp j p q
def bF.deed(h:bF P w K a H M Z)(d:V):bF P w K a (aJ H (Z.G .dl) (.lst (Z.ds++[d]))) M {Z with ds:=Z.ds++[d]}:=by
 have f:cont P w a M Z .dl=some (.lst Z.ds):=rfl;have im:=h.imm f (cR (o':=.lst (Z.ds++[d])));refine h.set f cR rfl (λr o e=>?_) (λj g e=>(h.seats j g e).kp im.kp) (h.trsI im.kp) (h.tabsI im) (h.came.im im)
 by_cases b:r=.dl
 ·subst b;exact .inl ⟨rfl,by rw[ag];exact e⟩
 ·refine .inr ⟨b,?_⟩;rw[<-e];cases r with|dl=>exact absurd rfl b|_=>rfl
def bF.setCame(h:bF P w K a H M Z)(hc:eL K H (Z.G .dl) d f):bF P w K a (aJ H (Z.G .ci) (.dK d)) {M with came:=f} {Z with cv:=d}:=by
 have g:cont P w a M Z .ci=some (.dK Z.cv):=rfl;have im:=h.imm g (cR (o':=.dK d));refine h.set g cR rfl (λr o e=>?_) (λj i e=>(h.seats j i e).kp im.kp) (h.trsI im.kp) (h.tabsI im) (hc.im im)
 by_cases b:r=.ci
 ·subst b;exact .inl ⟨rfl,by rw[ag];exact e⟩
 ·refine .inr ⟨b,?_⟩;rw[<-e];cases r with|ci=>exact absurd rfl b|_=>rfl
end
theorem wG:∀(ns:N7)(x:Str)(f:Nat->V),ju (ns++[x]) f=ju ns f++[(.inr x,f ns.length)]|[],_,_=>rfl|n::r,x,f=>by show(Sum.inr n,f 0)::ju (r++[x]) _=(Sum.inr n,f 0)::(ju r _++_);rw[wG r x];rfl
theorem pP:∀{ns:N7}{f g:Nat->V},(∀i,i<ns.length->f i=g i)->ju ns f=ju ns g|[],_,_,_=>rfl|n::r,f,g,h=>by show(Sum.inr n,f 0)::ju r _=(Sum.inr n,g 0)::ju r _;rw[h 0 (by simp),pP (ns:=r) (f:=λi=>f (i+1)) (g:=λi=>g (i+1)) λi hi=>h (i+1) (by simpa using hi)]
theorem iE:∀(ns:N7)(f:Nat->V),(ju ns f).length=ns.length|[],_=>rfl|n::r,f=>by rw[ju,kl,kl,iE r]
theorem rQ:∀{ns:N7}{f:Nat->V}{i:Nat}{x:Str},ns.Nodup->ns[i]?=some x->bw (ju ns f) (.inr x)=some (f i)
 |[],_,i,_,_,h=>by simp at h|n::r,f,0,x,_,h=>by
  have e:n=x:=by simpa using h
  exact cI (by rw[e])|n::r,f,i+1,x,hn,h=>by
  have h:r[i]?=some x:=by simpa using h
  rw[NW]at hn;have ne:n≠x:=λz=>hn.1 (by rw[z];exact e_ h);show bw ((Sum.inr n,f 0)::ju r _) _=_;rw[bP λz=>ne (o0 z)];exact rQ hn.2 h
theorem kh:∀{ns:N7}{f:Nat->V}{x:Str},x∉ns->bw (ju ns f) (.inr x)=none|[],_,_,_=>rfl|n::r,f,x,h=>by show bw ((Sum.inr n,f 0)::ju r _) _=_;rw[bP λz=>h (by rw[o0 z];exact hF)];exact kh λz=>h (g_ _ z)
theorem wF:∀{ns:N7}{f:Nat->V}{i:Nat},(ju ns f)[i]?=ns[i]?.map λx=>(.inr x,f i)|[],_,i=>by simp[ju]|n::r,f,0=>rfl|n::r,f,i+1=>by show(ju r λi=>f (i+1))[i]?=_;rw[wF];simp
section
variable{P:N6}{w:World}{K:N1}{a:ic}{H c:Hp}{M:bU}{Z:ZS}
def bF.tab(h:bF P w K a H M Z)(hl:M.las[i]?=some l):∃m,eO P w K a.bS H (Z.G (.tb i)) (Z.G (.od i)) (Z.G (.td i)) M.p (Z.ow i) (Z.tk i) m/\ja M.p l.S (Z.ow i) m:=by obtain⟨h1,⟨m,h2,h3⟩,_⟩:=h.tabs i l hl;exact⟨m,⟨⟨_,h.at_ (.tb i) _ (by simp only[cont,hl];rfl)⟩,h.at_ (.od i) _ (by simp only[cont,hl];rfl),h.at_ (.td i) _ (by simp only[cont,hl];rfl),h1,h2⟩,h3⟩
def bF.told(h:bF P w K a H M Z)(hl:M.las[i]?=some l)(o:l7 (Z.G (.od i)) (Z.G (.td i)) H c)(B:eO P w K a.bS c (Z.G (.tb i)) (Z.G (.od i)) (Z.G (.td i)) M.p f d F)(J:ja M.p s f F)(L:uB (cS K H) M.p s f)(N:ft H (Z.tk i) d):bF P w K a c {M with las:=M.las.set i {l with S:=s}} {Z with ow:=λj=>if j=i then f else Z.ow j,tk:=λj=>if j=i then d else Z.tk j}:=by
 obtain⟨m,I,_⟩:=h.tab hl;have im:Im (Z.G .dl) H c:=by
  have g:∀b ob,H b=some ob->(∀C,ob≠.dK C)->(∀φ,ob≠.ext φ)->c b=some ob:=λb ob e h1 h2=>o b ob e (λz=>by rw[z,I.own]at e;cases e;exact h1 _ rfl) (λz=>by rw[z,I.tak]at e;cases e;exact h2 _ rfl)
  exact⟨⟨λu O e=>g _ _ e (λ_ z=>(nomatch z)) (λ_ z=>(nomatch z)),λu x⟨D,e⟩=>⟨D,g _ _ e (λ_ z=>(nomatch z)) (λ_ z=>(nomatch z))⟩⟩,λb O e _=>g _ _ e (λ_ z=>(nomatch z)) (λ_ z=>(nomatch z))⟩
 have t:∀r ob,cont P w a {M with las:=M.las.set i {l with S:=s}} {Z with ow:=λj=>if j=i then f else Z.ow j,tk:=λj=>if j=i then d else Z.tk j} r=some ob->(r=.od i/\ob=.dK f)\/(r=.td i/\ob=dM P w (Z.G (.td i)) d)\/(r≠.od i/\r≠.td i/\cont P w a M Z r=some ob):=λr ob e=>by
  rw[yR (l':={l with S:=s}) hl rfl rfl]at e;cases r with|od j=>
   by_cases q:j=i
   ·subst q;have e:(M.las[j]?.map λ_=>HO.dK (if j=j then f else Z.ow j))=some ob:=e;rw[hl,gn rfl]at e;exact .inl ⟨rfl,(ir e).symm⟩
   ·have e:(M.las[j]?.map λ_=>HO.dK (if j=i then f else Z.ow j))=some ob:=e;rw[ge q]at e;exact .inr (.inr ⟨λz=>q (by injection z),λz=>(nomatch z),e⟩)|td j=>
   by_cases q:j=i
   ·subst q;have e:(M.las[j]?.map λ_=>dM P w (Z.G (.td j)) (if j=j then d else Z.tk j))=some ob:=e;rw[hl,gn rfl]at e;exact .inr (.inl ⟨rfl,(ir e).symm⟩)
   ·have e:(M.las[j]?.map λ_=>dM P w (Z.G (.td j)) (if j=i then d else Z.tk j))=some ob:=e;rw[ge q]at e;exact .inr (.inr ⟨λz=>(nomatch z),λz=>q (by injection z),e⟩)|_=>exact .inr (.inr ⟨λz=>(nomatch z),λz=>(nomatch z),e⟩)
 have v:cont P w a M Z (.od i)=some (.dK (Z.ow i)):=by simp only[cont,hl];rfl
 have A:cont P w a M Z (.td i)=some (dM P w (Z.G (.td i)) (Z.tk i)):=by simp only[cont,hl];rfl
 have live:∀r ob,cont P w a {M with las:=M.las.set i {l with S:=s}} {Z with ow:=λj=>if j=i then f else Z.ow j,tk:=λj=>if j=i then d else Z.tk j} r=some ob->∃D,cont P w a M Z r=some D:=λr ob e=>by
  rcases t r ob e with⟨rfl,_⟩|⟨rfl,_⟩|⟨_,_,q⟩
  ·exact⟨_,v⟩
  ·exact⟨_,A⟩
  ·exact⟨_,q⟩
 refine⟨λr Q ob E e R g=>?_,λr ob e=>?_,λj k e=>?_,h.trsI im.kp,λj k e=>?_,h.came.im im⟩
 ·obtain⟨_,q⟩:=live r ob e;obtain⟨_,T⟩:=live Q E R;exact h.inj _ _ _ _ q T g
 ·rcases t r ob e with⟨rfl,rfl⟩|⟨rfl,rfl⟩|⟨n1,n2,q⟩
  ·exact B.own
  ·exact B.tak
  ·exact o _ _ (h.at_ _ _ q) (λz=>n1 (h.inj _ _ _ _ q v z)) (λz=>n2 (h.inj _ _ _ _ q A z))
 ·rcases nW e with⟨rfl,rfl⟩|⟨n,q⟩
  ·exact(h.seats _ l hl).kp im.kp
  ·exact(h.seats j k q).kp im.kp
 ·rcases nW e with⟨rfl,rfl⟩|⟨n,q⟩
  ·show dQ K c (if j=j then d else Z.tk j)/\(∃m,fh c (if j=j then d else Z.tk j) m/\ja M.p s (if j=j then f else Z.ow j) m)/\uB (cS K c) M.p s (if j=j then f else Z.ow j)/\∀x∈(if j=j then d else Z.tk j),x.2.2≠.ref (Z.G .dl);rw[gn rfl,gn rfl];refine⟨B.keys,⟨F,B.lsts,J⟩,L.mono λ_ _ q=>eF im.kp q,λx U z=>?_⟩;rcases N x U with⟨y,V,e⟩|⟨W,e,hn⟩
   ·exact(h.tabs _ l hl).2.2.2 y V (e.trans z)
   ·rw[e]at z;cases z;rw[h.at_ .dl _ rfl]at hn;cases hn
  ·show dQ K c (if j=i then d else Z.tk j)/\(∃m,fh c (if j=i then d else Z.tk j) m/\ja M.p k.S (if j=i then f else Z.ow j) m)/\uB (cS K c) M.p k.S (if j=i then f else Z.ow j)/\∀x∈(if j=i then d else Z.tk j),x.2.2≠.ref (Z.G .dl);rw[ge n,ge n];exact h.tabsI im j k q
end
def u8(c d:Nat):Ro->Prop|.lo i=>i<c|.iu i=>i<c|.tb i=>i<c|.od i=>i<c|.td i=>i<c|.tr i=>i<d|.ba i=>i<d|_=>True
def qg(e:cont P w a M Z r=some o):u8 M.las.length M.trs.length r:=by cases r<;>first|exact trivial|(obtain⟨y,h1,_⟩:=Option.map_eq_some_iff.mp e;exact(d_.mp h1).1)
def ml(P:N6)(w:World)(a:ic)(Z:ZS)(h:u8 M.las.length M.trs.length r):∃o,cont P w a M Z r=some o:=by cases r<;>first|exact⟨_,rfl⟩|(have h:_<M.las.length:=h;exact⟨_,by simp only[cont,fx h];rfl⟩)|(have h:_<M.trs.length:=h;exact⟨_,by simp only[cont,fx h];rfl⟩)
def ZS.newL(Z:ZS)(n:Nat)(lo e t f g c d:Addr):ZS:={Z with
 G:=λr=>if r=.lo n then lo else if r=.iu n then e else if r=.tb n then t else if r=.od n then f else if r=.td n then g else Z.G r
 dx:=λr=>if r=.lo n then c else if r=.tb n then d else Z.dx r
 iv:=λj=>if j=n then[]else Z.iv j
 ow:=λj=>if j=n then[]else Z.ow j
 tk:=λj=>if j=n then[]else Z.tk j}
def ZS.newT(Z:ZS)(n:Nat)(t c dx ar:Addr)(ru:V)(sh:Addr):ZS:={Z with
 G:=λr=>if r=.tr n then t else if r=.ba n then c else Z.G r
 dx:=λr=>if r=.tr n then dx else Z.dx r
 ar:=λj=>if j=n then ar else Z.ar j
 ru:=λj=>if j=n then ru else Z.ru j
 sh:=λj=>if j=n then sh else Z.sh j}
def nU(e:(c++[x])[j]?=some y):(j=c.length/\y=x)\/(j≠c.length/\c[j]?=some y):=by
 rcases Nat.lt_trichotomy j c.length with q|q|q
 ·rw[pu q]at e;exact .inr ⟨h_ q,e⟩
 ·subst q;rw[List.getElem?_concat_length]at e;exact .inl ⟨rfl,(ir e).symm⟩
 ·rw[lh (by simp;exact q)]at e;cases e
def iQ(e:(c++[x])[j]?.map f=some o):(j=c.length/\o=f x)\/(j≠c.length/\c[j]?.map f=some o):=by
 obtain⟨y,h1,h2⟩:=Option.map_eq_some_iff.mp e;rcases nU h1 with⟨q,rfl⟩|⟨q,z⟩
 ·exact .inl ⟨q,h2.symm⟩
 ·exact .inr ⟨q,by rw[z];exact ri some h2⟩
section
variable{P:N6}{w:World}{K:N1}{a:ic}{H H':Hp}{M:bU}{Z:ZS}
theorem bF.newL(h:bF P w K a H M Z)(h1:H lo=none)(h2:H iu=none)(h3:H t=none)(h4:H od=none)(h5:H td=none)(D:od≠iu)(l:∀b o,H b=some o->b≠Z.G .ln->H' b=some o)(Q:H' (Z.G .ln)=some (.dK (ju (M.las.map cP.nm) (λi=>.ref (Z.G (.lo i)))++[(.inr nm,.ref lo)])))(R:H' lo=some (.ins a.eY c [("slope",.int sl),("table",.ref t),("inside",.ref iu)]))(T:eO P w K a.bS H' t od td M.p [] [] [])(E:lo≠t)(W:H' iu=some (.dK [])):∃s,s.G .hh=Z.G .hh/\s.G .dl=Z.G .dl/\s.ds=Z.ds/\(∀j,s.tk j=(if j=M.las.length then[]else Z.tk j)/\s.ow j=(if j=M.las.length then[]else Z.ow j))/\s.cv=Z.cv/\bF P w K a H' {M with las:=M.las++[⟨nm,sl,AS.new,[]⟩]} s/\∀r,u8 (M.las.length+1) M.trs.length r->H (s.G r)=none\/(s.G r=Z.G r/\u8 M.las.length M.trs.length r):=by
 obtain⟨d,O⟩:=T.ins;have im:=h.imm (r:=.ln) rfl l;have F:(M.las.map cP.nm).length=M.las.length:=b_ ..;have u:∀r o,cont P w a {M with las:=M.las++[⟨nm,sl,AS.new,[]⟩]} (Z.newL M.las.length lo iu t od td c d) r=some o->(H' ((Z.newL M.las.length lo iu t od td c d).G r)=some o/\(r=.lo M.las.length\/r=.iu M.las.length\/r=.tb M.las.length\/r=.od M.las.length\/r=.td M.las.length))\/((Z.newL M.las.length lo iu t od td c d).G r=Z.G r/\H' (Z.G r)=some o/\∃U,cont P w a M Z r=some U):=λr o e=>by
  cases r with|hh=>exact .inr ⟨rfl,l _ _ (h.at_ .hh _ e) λz=>(nomatch h.inj .hh .ln _ _ rfl rfl z),_,e⟩|tn=>exact .inr ⟨rfl,l _ _ (h.at_ .tn _ e) λz=>(nomatch h.inj .tn .ln _ _ rfl rfl z),_,e⟩|ci=>exact .inr ⟨rfl,l _ _ (h.at_ .ci _ e) λz=>(nomatch h.inj .ci .ln _ _ rfl rfl z),_,e⟩|dl=>exact .inr ⟨rfl,l _ _ (h.at_ .dl _ e) λz=>(nomatch h.inj .dl .ln _ _ rfl rfl z),_,e⟩|tr j=>exact .inr ⟨rfl,l _ _ (h.at_ (.tr j) _ e) λz=>(nomatch h.inj (.tr j) .ln _ _ e rfl z),_,e⟩|ba j=>exact .inr ⟨rfl,l _ _ (h.at_ (.ba j) _ e) λz=>(nomatch h.inj (.ba j) .ln _ _ e rfl z),_,e⟩|ln=>refine .inr ⟨rfl,?_,_,rfl⟩;rw[Q,<-e];show _=some (HO.dK (ju ((M.las++[(⟨nm,sl,AS.new,[]⟩:cP)]).map cP.nm) λi=>V.ref ((Z.newL M.las.length lo iu t od td c d).G (.lo i))));rw[gg,NC,wG,F];have e1:(Z.newL M.las.length lo iu t od td c d).G (.lo M.las.length)=lo:=gn rfl;rw[e1,pP (f:=λi=>V.ref ((Z.newL M.las.length lo iu t od td c d).G (.lo i))) (g:=λi=>V.ref (Z.G (.lo i)))];intro i hi;rw[F]at hi;have n:∀x:Nat->Ro,(∀i j,x i=x j->i=j)->x i≠x M.las.length:=λx I z=>h_ hi (I _ _ z);show V.ref (if Ro.lo i=.lo M.las.length then lo else _)=_;rw[ge (n Ro.lo λ_ _ z=>by injection z)];rfl|lo j=>
   rcases iQ e with⟨rfl,rfl⟩|⟨q,e⟩
   ·refine .inl ⟨?_,.inl rfl⟩;have B:(Z.newL M.las.length lo iu t od td c d).G (.lo M.las.length)=lo:=gn rfl;have X:(Z.newL M.las.length lo iu t od td c d).G (.tb M.las.length)=t:=by simp[ZS.newL]
    have y:(Z.newL M.las.length lo iu t od td c d).G (.iu M.las.length)=iu:=by simp[ZS.newL]
    have A:(Z.newL M.las.length lo iu t od td c d).dx (.lo M.las.length)=c:=gn rfl;rw[B,X,y,A];exact R
   ·have e:cont P w a M Z (.lo j)=some o:=by rw[<-e];simp[cont,ZS.newL,q]
    exact .inr ⟨by simp[ZS.newL,q],l _ _ (h.at_ (.lo j) _ e) λz=>(nomatch h.inj (.lo j) .ln _ _ e rfl z),_,e⟩|iu j=>
   rcases iQ e with⟨rfl,rfl⟩|⟨q,e⟩
   ·refine .inl ⟨?_,.inr (.inl rfl)⟩;have y:(Z.newL M.las.length lo iu t od td c d).G (.iu M.las.length)=iu:=by simp[ZS.newL]
    have A:(Z.newL M.las.length lo iu t od td c d).iv M.las.length=[]:=gn rfl;rw[y,A];exact W
   ·have e:cont P w a M Z (.iu j)=some o:=by rw[<-e];simp[cont,ZS.newL,q]
    exact .inr ⟨by simp[ZS.newL,q],l _ _ (h.at_ (.iu j) _ e) λz=>(nomatch h.inj (.iu j) .ln _ _ e rfl z),_,e⟩|tb j=>
   rcases iQ e with⟨rfl,rfl⟩|⟨q,e⟩
   ·refine .inl ⟨?_,.inr (.inr (.inl rfl))⟩;have X:(Z.newL M.las.length lo iu t od td c d).G (.tb M.las.length)=t:=by simp[ZS.newL]
    have y:(Z.newL M.las.length lo iu t od td c d).G (.od M.las.length)=od:=by simp[ZS.newL]
    have g5:(Z.newL M.las.length lo iu t od td c d).G (.td M.las.length)=td:=by simp[ZS.newL]
    have A:(Z.newL M.las.length lo iu t od td c d).dx (.tb M.las.length)=d:=by simp[ZS.newL]
    rw[X,y,A,g5];exact O
   ·have e:cont P w a M Z (.tb j)=some o:=by rw[<-e];simp[cont,ZS.newL,q]
    exact .inr ⟨by simp[ZS.newL,q],l _ _ (h.at_ (.tb j) _ e) λz=>(nomatch h.inj (.tb j) .ln _ _ e rfl z),_,e⟩|od j=>
   rcases iQ e with⟨rfl,rfl⟩|⟨q,e⟩
   ·refine .inl ⟨?_,.inr (.inr (.inr (.inl rfl)))⟩;have y:(Z.newL M.las.length lo iu t od td c d).G (.od M.las.length)=od:=by simp[ZS.newL]
    have A:(Z.newL M.las.length lo iu t od td c d).ow M.las.length=[]:=gn rfl;rw[y,A];exact T.own
   ·have e:cont P w a M Z (.od j)=some o:=by rw[<-e];simp[cont,ZS.newL,q]
    exact .inr ⟨by simp[ZS.newL,q],l _ _ (h.at_ (.od j) _ e) λz=>(nomatch h.inj (.od j) .ln _ _ e rfl z),_,e⟩|td j=>
   rcases iQ e with⟨rfl,rfl⟩|⟨q,e⟩
   ·refine .inl ⟨?_,.inr (.inr (.inr (.inr rfl)))⟩;have y:(Z.newL M.las.length lo iu t od td c d).G (.td M.las.length)=td:=by simp[ZS.newL]
    have A:(Z.newL M.las.length lo iu t od td c d).tk M.las.length=[]:=gn rfl;rw[y,A];exact T.tak
   ·have e:cont P w a M Z (.td j)=some o:=by rw[<-e];simp[cont,ZS.newL,q]
    exact .inr ⟨by simp[ZS.newL,q],l _ _ (h.at_ (.td j) _ e) λz=>(nomatch h.inj (.td j) .ln _ _ e rfl z),_,e⟩
 have gs:∀r,(r=.lo M.las.length\/r=.iu M.las.length\/r=.tb M.las.length\/r=.od M.las.length\/r=.td M.las.length)->H ((Z.newL M.las.length lo iu t od td c d).G r)=none:=λr Y=>by rcases Y with rfl|rfl|rfl|rfl|rfl<;>simp only[ZS.newL]<;>simp[h1,h2,h3,h4,h5]
 refine⟨Z.newL M.las.length lo iu t od td c d,rfl,rfl,rfl,λj=>⟨rfl,rfl⟩,rfl,⟨λr r' o U e e' g=>?_,λr o e=>?_,λj C e=>?_,h.trsI im.kp,λj C e=>?_,h.came.im im⟩,λr Y=>?_⟩
 ·rcases u r o e with⟨q,n⟩|⟨B,q,x,J⟩<;>rcases u r' U e' with⟨q',n'⟩|⟨L,q',x',N⟩
  ·rw[g,q']at q;have q:=ir q;rcases n with rfl|rfl|rfl|rfl|rfl<;>rcases n' with rfl|rfl|rfl|rfl|rfl<;>first|rfl|(exfalso;simp[ZS.newL]at g;first|exact E g|exact E g.symm|exact D g|exact D g.symm|(simp[cont]at e e';rw[<-e,<-e']at q;cases q))
  ·rw[L]at g;have:=h.at_ _ _ N;rw[<-g,gs r n]at this;cases this
  ·rw[B]at g;have:=h.at_ _ _ J;rw[g,gs r' n']at this;cases this
  ·rw[B,L]at g;exact h.inj _ _ _ _ J N g
 ·rcases u r o e with⟨q,n⟩|⟨B,q,x,J⟩
  ·exact q
  ·rw[B];exact q
 ·rcases nU e with⟨rfl,rfl⟩|⟨n,q⟩
  ·show cg K H' (if M.las.length=M.las.length then[]else _) [];rw[gn rfl];exact .nil
  ·show cg K H' (if j=M.las.length then[]else Z.iv j) C.ins;rw[ge n];exact(h.seats j C q).kp im.kp
 ·rcases nU e with⟨rfl,rfl⟩|⟨n,q⟩
  ·show dQ K H' (if M.las.length=M.las.length then[]else _)/\(∃m,fh H' (if M.las.length=M.las.length then[]else _) m/\ja M.p AS.new (if M.las.length=M.las.length then[]else _) m)/\uB (cS K H') M.p AS.new (if M.las.length=M.las.length then[]else _)/\∀x∈(if M.las.length=M.las.length then[]else Z.tk _),x.2.2≠.ref (Z.G .dl);rw[gn rfl,gn rfl];exact⟨λx I=>(nomatch I),⟨[],.nil,λk=>rfl,λp _ _=>rfl⟩,λp v _ _ z=>(nomatch z),λx I=>(nomatch I)⟩
  ·show dQ K H' (if j=M.las.length then[]else Z.tk j)/\(∃m,fh H' (if j=M.las.length then[]else Z.tk j) m/\ja M.p C.S (if j=M.las.length then[]else Z.ow j) m)/\uB (cS K H') M.p C.S (if j=M.las.length then[]else Z.ow j)/\∀x∈(if j=M.las.length then[]else Z.tk j),x.2.2≠.ref (Z.G .dl);rw[ge n,ge n];exact h.tabsI im j C q
 ·obtain⟨o,e⟩:=ml P w a (M:={M with las:=M.las++[⟨nm,sl,AS.new,[]⟩]}) (Z.newL M.las.length lo iu t od td c d) (r:=r) (by simpa using Y);rcases u r o e with⟨_,n⟩|⟨B,_,x,J⟩
  ·exact .inl (gs r n)
  ·exact .inr ⟨B,qg J⟩
theorem bF.newT(h:bF P w K a H M Z){nm home:Str}{arms shuts:N7}{rule:Ru}{t ba dx ar sh:Addr}{ru:V}(h1:H t=none)(h2:H ba=none)(c:∀b o,H b=some o->b≠Z.G .tn->H' b=some o)(v:H' (Z.G .tn)=some (.dK (ju (M.trs.map dq.nm) (λi=>.ref (Z.G (.tr i)))++[(.inr nm,.ref t)])))(I:H' t=some (.ins a.fH dx [("home",.str home),("arms",.ref ar),("rule",ru),("shuts",.ref sh),("paused",.bl false),("closed",.bl false),("barred",.ref ba)]))(J:H' ba=some (.dK []))(L:bd K H ar (arms.map V.str))(N:fi K H rule ru)(Q:bd K H sh (shuts.map V.str)):∃d,d.G .hh=Z.G .hh/\d.G .dl=Z.G .dl/\d.ds=Z.ds/\d.tk=Z.tk/\d.ow=Z.ow/\d.cv=Z.cv/\bF P w K a H' {M with trs:=M.trs++[⟨nm,home,arms,rule,shuts,false,false,[]⟩]} d/\∀r,u8 M.las.length (M.trs.length+1) r->H (d.G r)=none\/(d.G r=Z.G r/\u8 M.las.length M.trs.length r):=by
 have im:=h.imm (r:=.tn) rfl c;have m:(M.trs.map dq.nm).length=M.trs.length:=b_ ..;have k:∀r o,cont P w a {M with trs:=M.trs++[⟨nm,home,arms,rule,shuts,false,false,[]⟩]} (Z.newT M.trs.length t ba dx ar ru sh) r=some o->(H' ((Z.newT M.trs.length t ba dx ar ru sh).G r)=some o/\(r=.tr M.trs.length\/r=.ba M.trs.length))\/((Z.newT M.trs.length t ba dx ar ru sh).G r=Z.G r/\H' (Z.G r)=some o/\∃y,cont P w a M Z r=some y):=λr o e=>by
  cases r with|tn=>refine .inr ⟨rfl,?_,_,rfl⟩;rw[v,<-e];show _=some (HO.dK (ju ((M.trs++[(⟨nm,home,arms,rule,shuts,false,false,[]⟩:dq)]).map dq.nm) λi=>V.ref ((Z.newT M.trs.length t ba dx ar ru sh).G (.tr i))));rw[gg,NC,wG,m];have O:(Z.newT M.trs.length t ba dx ar ru sh).G (.tr M.trs.length)=t:=gn rfl;rw[O,pP (f:=λi=>V.ref ((Z.newT M.trs.length t ba dx ar ru sh).G (.tr i))) (g:=λi=>V.ref (Z.G (.tr i)))];intro i hi;rw[m]at hi;show V.ref (if Ro.tr i=.tr M.trs.length then t else _)=_;rw[ge λz=>h_ hi (by injection z)];rfl|tr j=>
   rcases iQ e with⟨rfl,rfl⟩|⟨q,e⟩
   ·refine .inl ⟨?_,.inl rfl⟩;have l:(Z.newT M.trs.length t ba dx ar ru sh).G (.tr M.trs.length)=t:=gn rfl;have A:(Z.newT M.trs.length t ba dx ar ru sh).G (.ba M.trs.length)=ba:=by simp[ZS.newT]
    have R:(Z.newT M.trs.length t ba dx ar ru sh).dx (.tr M.trs.length)=dx:=gn rfl;have S:(Z.newT M.trs.length t ba dx ar ru sh).ar M.trs.length=ar:=gn rfl;have T:(Z.newT M.trs.length t ba dx ar ru sh).ru M.trs.length=ru:=gn rfl;have U:(Z.newT M.trs.length t ba dx ar ru sh).sh M.trs.length=sh:=gn rfl;rw[l,A,R,S,T,U];exact I
   ·have e:cont P w a M Z (.tr j)=some o:=by rw[<-e];simp[cont,ZS.newT,q]
    exact .inr ⟨by simp[ZS.newT,q],c _ _ (h.at_ (.tr j) _ e) λz=>(nomatch h.inj (.tr j) .tn _ _ e rfl z),_,e⟩|ba j=>
   rcases iQ e with⟨rfl,rfl⟩|⟨q,e⟩
   ·refine .inl ⟨?_,.inr rfl⟩;have A:(Z.newT M.trs.length t ba dx ar ru sh).G (.ba M.trs.length)=ba:=by simp[ZS.newT]
    rw[A];exact J
   ·have e:cont P w a M Z (.ba j)=some o:=by rw[<-e];rfl
    exact .inr ⟨by simp[ZS.newT,q],c _ _ (h.at_ (.ba j) _ e) λz=>(nomatch h.inj (.ba j) .tn _ _ e rfl z),_,e⟩|hh=>exact .inr ⟨rfl,c _ _ (h.at_ .hh _ e) λz=>(nomatch h.inj .hh .tn _ _ rfl rfl z),_,e⟩|ln=>exact .inr ⟨rfl,c _ _ (h.at_ .ln _ e) λz=>(nomatch h.inj .ln .tn _ _ rfl rfl z),_,e⟩|ci=>exact .inr ⟨rfl,c _ _ (h.at_ .ci _ e) λz=>(nomatch h.inj .ci .tn _ _ rfl rfl z),_,e⟩|dl=>exact .inr ⟨rfl,c _ _ (h.at_ .dl _ e) λz=>(nomatch h.inj .dl .tn _ _ rfl rfl z),_,e⟩|lo j=>exact .inr ⟨rfl,c _ _ (h.at_ (.lo j) _ e) λz=>(nomatch h.inj (.lo j) .tn _ _ e rfl z),_,e⟩|iu j=>exact .inr ⟨rfl,c _ _ (h.at_ (.iu j) _ e) λz=>(nomatch h.inj (.iu j) .tn _ _ e rfl z),_,e⟩|tb j=>exact .inr ⟨rfl,c _ _ (h.at_ (.tb j) _ e) λz=>(nomatch h.inj (.tb j) .tn _ _ e rfl z),_,e⟩|od j=>exact .inr ⟨rfl,c _ _ (h.at_ (.od j) _ e) λz=>(nomatch h.inj (.od j) .tn _ _ e rfl z),_,e⟩|td j=>exact .inr ⟨rfl,c _ _ (h.at_ (.td j) _ e) λz=>(nomatch h.inj (.td j) .tn _ _ e rfl z),_,e⟩
 have gs:∀r,(r=.tr M.trs.length\/r=.ba M.trs.length)->H ((Z.newT M.trs.length t ba dx ar ru sh).G r)=none:=λr B=>by rcases B with rfl|rfl<;>simp only[ZS.newT]<;>simp[h1,h2]
 refine⟨Z.newT M.trs.length t ba dx ar ru sh,rfl,rfl,rfl,rfl,rfl,rfl,⟨λr D o y e C g=>?_,λr o e=>?_,λj W e=>(h.seats j W e).kp im.kp,λj X e=>?_,h.tabsI im,h.came.im im⟩,λr B=>?_⟩
 ·rcases k r o e with⟨q,n⟩|⟨l,q,x,p⟩<;>rcases k D y C with⟨E,F⟩|⟨s,E,Y,u⟩
  ·rw[g,E]at q;have q:=ir q;rcases n with rfl|rfl<;>rcases F with rfl|rfl<;>first|rfl|(exfalso;simp[cont]at e C;rw[<-e,<-C]at q;cases q)
  ·rw[s]at g;have:=h.at_ _ _ u;rw[<-g,gs r n]at this;cases this
  ·rw[l]at g;have:=h.at_ _ _ p;rw[g,gs D F]at this;cases this
  ·rw[l,s]at g;exact h.inj _ _ _ _ p u g
 ·rcases k r o e with⟨q,n⟩|⟨l,q,x,p⟩
  ·exact q
  ·rw[l];exact q
 ·rcases nU e with⟨rfl,rfl⟩|⟨n,q⟩
  ·show bd K H' (if M.trs.length=M.trs.length then ar else _) (arms.map V.str)/\fi K H' rule (if M.trs.length=M.trs.length then ru else _)/\bd K H' (if M.trs.length=M.trs.length then sh else _) (shuts.map V.str);rw[gn rfl,gn rfl,gn rfl];exact⟨im.kp.tq L,N.kp im.kp,im.kp.tq Q⟩
  ·show bd K H' (if j=M.trs.length then ar else Z.ar j) _/\fi K H' _ (if j=M.trs.length then ru else Z.ru j)/\bd K H' (if j=M.trs.length then sh else Z.sh j) _;rw[ge n,ge n,ge n];exact h.trsI im.kp j X q
 ·obtain⟨o,e⟩:=ml P w a (M:={M with trs:=M.trs++[⟨nm,home,arms,rule,shuts,false,false,[]⟩]}) (Z.newT M.trs.length t ba dx ar ru sh) (r:=r) (by simpa using B);rcases k r o e with⟨_,n⟩|⟨l,_,x,p⟩
  ·exact .inl (gs r n)
  ·exact .inr ⟨l,qg p⟩
end
def jb(M:bU)(Z:ZS)(b:Addr):Prop:=(∃r,u8 M.las.length M.trs.length r/\b=Z.G r)\/(∃i,i<M.las.length/\∃x∈Z.tk i,x.2.2=.ref b)\/∃x∈Z.cv,x.2=.ref b
def fh.outs(n:∀x∈tk,∀l c,x.2.2=.ref l->H l=some (.lst c)->H' l=some (.lst c))(h:fh H tk m):fh H' tk m:=Paired.mapM h λx b _ q=>⟨q.1,q.2.1,q.2.2.imp λ_ q=>⟨q.1,n x b _ _ q.1 q.2⟩⟩
def eL.outs(e:Kp H H')(n:∀x∈cv,∀l c,x.2=.ref l->H l=some (.lst c)->H' l=some (.lst c))(h:eL K H dl cv cm):eL K H' dl cv cm:=Paired.mapM h λx b _ q=>⟨q.1,q.2.imp λ_ q=>q.imp λ_ q=>⟨q.1,q.2.1,n x b _ _ q.1 q.2.2.1,q.2.2.2.kp e⟩⟩
def bF.out(h:bF P w K a H M Z)(n:¬jb M Z o)(kp:Kp H H')(d:∀b ob,H b=some ob->b≠o->H' b=some ob):bF P w K a H' M Z:=⟨h.inj,λr ob e=>d _ _ (h.at_ r ob e) λz=>n (.inl ⟨r,qg e,z.symm⟩),λi l hl=>(h.seats i l hl).kp kp,h.trsI kp,λi l hl=>let⟨h1,⟨m,h2,h3⟩,h4,h5⟩:=h.tabs i l hl;⟨λx c=>eF kp (h1 x c),⟨m,h2.outs λx c l j f g=>d _ _ g λz=>n (.inr (.inl ⟨i,(d_.mp hl).1,x,c,by rw[f,z]⟩)),h3⟩,h4.mono λ_ _ q=>eF kp q,h5⟩,h.came.outs kp λx c l j f g=>d _ _ g λz=>n (.inr (.inr ⟨x,c,by rw[f,z]⟩))⟩
def lR{a b:Addr}{o:HO}(h:aJ H a o b=none):H b=none:=by
 by_cases e:b=a
 ·rw[e,ag]at h;cases h
 ·rw[ao e]at h;exact h
structure gz(H:Hp)(M:bU)(Z:ZS)(H':Hp)(M':bU)(Z':ZS):Prop where
 hh:Z'.G .hh=Z.G .hh
 fr:∀b o,H b=some o->¬jb M Z b->H' b=some o
 fp:∀b,jb M' Z' b->jb M Z b\/H b=none
 dm:∀b,H' b=none->H b=none
 dd:Z'.G .dl=Z.G .dl
section
variable{H j f g:Hp}{M M1 M2 c:bU}{Z m d a:ZS}
def gz.of(s:am H g):gz H M Z g M Z:=⟨rfl,λb o h _=>s b o h,λ_ h=>.inl h,λ_ h=>s.free h,rfl⟩
theorem gz.trans(s:gz H M Z j M1 m)(t:gz j M1 m f M2 d):gz H M Z f M2 d:=⟨t.hh.trans s.hh,λb o h n=>t.fr b o (s.fr b o h n) λq=>(s.fp b q).elim n λz=>(by rw[h]at z;cases z),λb q=>(t.fp b q).elim (s.fp b) λz=>.inr (s.dm b z),λb z=>s.dm b (t.dm b z),t.dd.trans s.dd⟩
def gz.put(s:u8 M.las.length M.trs.length r)(p:a.G=Z.G)(h1:c.las.length=M.las.length)(h2:c.trs.length=M.trs.length)(h3:a.tk=Z.tk)(h4:∀x∈a.cv,x∈Z.cv\/∃l,x.2=.ref l/\(jb M Z l\/H l=none)):gz H M Z (aJ H (Z.G r) o) c a:=⟨by rw[p],λb o h n=>(by rw[ao λz=>n (.inl ⟨r,s,z⟩)];exact h),λb q=>by
  rcases q with⟨t,h,e⟩|⟨i,hi,x,k,e⟩|⟨x,k,e⟩
  ·exact .inl (.inl ⟨t,by rw[<-h1,<-h2];exact h,by rw[e,p]⟩)
  ·exact .inl (.inr (.inl ⟨i,by rw[<-h1];exact hi,x,by rw[<-h3];exact k,e⟩))
  ·rcases h4 x k with q|⟨l,u,q⟩
   ·exact .inl (.inr (.inr ⟨x,q,e⟩))
   ·rw[u]at e;cases e;exact q,λb z=>lR z,by rw[p]⟩
end
def gz.out{o:Addr}{x:HO}{H c:Hp}{M M1:bU}{Z d:ZS}(s:gz H M Z c M1 d)(n:H o=none):gz H M Z (aJ c o x) M1 d:=⟨s.hh,λb e h q=>(by rw[ao (aH h n)];exact s.fr b e h q),s.fp,λb z=>s.dm b (lR z),s.dd⟩
theorem fh.ex(h:fh H tk m)(x:eX)(c:x∈tk):∃l d,x.2.2=.ref l/\H l=some (.lst d):=(Paired.ex h x c).elim λ_ q=>q.2.2.imp λ_ q=>⟨_,q⟩
theorem eL.ex(h:eL K H dl cv cm)(x:cu×V)(c:x∈cv):∃l d,x.2=.ref l/\H l=some (.lst d):=(Paired.ex h x c).elim λ_ q=>q.2.imp λ_ q=>q.imp λ_ q=>⟨q.1,q.2.2.1⟩
def bF.foot(h:bF P w K a H M Z)(c:H b=none):¬jb M Z b:=λz=>by
 rcases z with⟨r,j,e⟩|⟨i,hi,x,d,e⟩|⟨x,d,e⟩
 ·obtain⟨o,q⟩:=ml P w a Z j;rw[e,h.at_ r o q]at c;cases c
 ·obtain⟨_,⟨m,q,_⟩,_⟩:=h.tabs i _ (fx hi);obtain⟨l,k,f,g⟩:=q.ex x d;rw[f]at e;cases e;rw[g]at c;cases c
 ·obtain⟨l,k,f,g⟩:=h.came.ex x d;rw[f]at e;cases e;rw[g]at c;cases c
structure Fz(M:bU)(c:Nat)(l:cP):Prop where
 wd:Wd l.nm
 sl:0<=l.sl/\l.sl<=M.p
 ok:l.S.Ok M.p
 len:l.ins.length<=c
 gs:∀x∈l.ins,Be x.1
 nd:(l.ins.map (·.1)).Nodup
 own:∀k q,q∈l.S.pl k->k=aV "" ""\/∃t∈M.trs,t.home=l.nm/\∃y∈t.arms,k=aV t.nm y
structure Hr(M:bU)(t:dq):Prop where
 wd:Wd t.nm
 hm:t.home∈M.las.map cP.nm
 a1:1<=t.arms.length
 a4:t.arms.length<=4
 nd:t.arms.Nodup
 aw:∀x∈t.arms,Wd x
 hg:t.rule.hgt<=6
 s8:t.shuts.length<=8
structure ma(M:bU)(c:Nat):Prop where
 p:2<=M.p/\M.p<=997
 ln:(M.las.map cP.nm).Nodup
 tn:(M.trs.map dq.nm).Nodup
 la:∀l∈M.las,Fz M c l
 tr:∀t∈M.trs,Hr M t
 cm:∀x∈M.came,x.2.length<=10*c
 l4:M.las.length<=4
 tc:M.trs.length<=10
 cl:M.came.length<=10*c
 br:∀t∈M.trs,t.bar.length<=c
structure cE(P:N6)(w:World)(K:N1)(a:ic)(H:Hp)(M:bU)(Z:ZS)(c:Nat):Prop where
 g:bF P w K a H M Z
 ok:ma M c
 tk:∀i,(Z.tk i).length<=10*c
 ow:∀i,(Z.ow i).length<=5000*c
 ds:Z.ds.length<=c
def Fz.mono(h:Fz M c l)(hc:c<=d):Fz M d l:={h with len:=j_ h.len hc}
theorem ma.mono(h:ma M c)(hc:c<=d):ma M d:={h with la:=λl hl=>(h.la l hl).mono hc,cm:=λx b=>j_ (h.cm x b) (MK _ hc),cl:=j_ h.cl (MK _ hc),br:=λt e=>j_ (h.br t e) hc}
theorem cE.mono(h:cE P w K a H M Z c)(hc:c<=d):cE P w K a H M Z d:=⟨h.g,h.ok.mono hc,λi=>j_ (h.tk i) (MK _ hc),λi=>j_ (h.ow i) (MK _ hc),j_ h.ds hc⟩
theorem cE.same(h:cE P w K a H M Z c)(e:am H H'):cE P w K a H' M Z c:={h with g:=h.g.same e}
section
variable{P:N6}{w:World}{K:N1}{a:ic}{H d:Hp}{M:bU}{Z:ZS}{c:Nat}
def bF.house(h:bF P w K a H M Z):H (Z.G .hh)=some (.ins a.cp (Z.dx .hh) [("own_prime",.int M.p),("own_salt",.int M.salt),("layer_named",.ref (Z.G .ln)),("trial_named",.ref (Z.G .tn)),("came_into",.ref (Z.G .ci)),("deeds",.ref (Z.G .dl))]):=h.at_ .hh _ rfl
def bF.lays(h:bF P w K a H M Z):H (Z.G .ln)=some (.dK (ju (M.las.map cP.nm) λi=>.ref (Z.G (.lo i)))):=h.at_ .ln _ rfl
def bF.tris(h:bF P w K a H M Z):H (Z.G .tn)=some (.dK (ju (M.trs.map dq.nm) λi=>.ref (Z.G (.tr i)))):=h.at_ .tn _ rfl
def bF.cams(h:bF P w K a H M Z):H (Z.G .ci)=some (.dK Z.cv):=h.at_ .ci _ rfl
def bF.dees(h:bF P w K a H M Z):H (Z.G .dl)=some (.lst Z.ds):=h.at_ .dl _ rfl
def bF.layer(h:bF P w K a H M Z)(hl:M.las[i]?=some l):H (Z.G (.lo i))=some (.ins a.eY (Z.dx (.lo i)) [("slope",.int l.sl),("table",.ref (Z.G (.tb i))),("inside",.ref (Z.G (.iu i)))]):=h.at_ (.lo i) _ (by simp only[cont,hl];rfl)
def bF.inside(h:bF P w K a H M Z)(hl:M.las[i]?=some l):H (Z.G (.iu i))=some (.dK (Z.iv i)):=h.at_ (.iu i) _ (by simp only[cont,hl];rfl)
def bF.trial(h:bF P w K a H M Z)(e:M.trs[i]?=some t):H (Z.G (.tr i))=some (.ins a.fH (Z.dx (.tr i)) [("home",.str t.home),("arms",.ref (Z.ar i)),("rule",Z.ru i),("shuts",.ref (Z.sh i)),("paused",.bl t.pau),("closed",.bl t.clo),("barred",.ref (Z.G (.ba i)))]):=h.at_ (.tr i) _ (by simp only[cont,e];rfl)
def bF.barred(h:bF P w K a H M Z)(e:M.trs[i]?=some t):H (Z.G (.ba i))=some (.dK (t.bar.map λg=>(.inr g,.bl true))):=h.at_ (.ba i) _ (by simp only[cont,e];rfl)
def ma.lget(h:ma M c)(hl:M.las[i]?=some l):bw (ju (M.las.map cP.nm) λi=>.ref (Z.G (.lo i))) (.inr l.nm)=some (.ref (Z.G (.lo i))):=rQ h.ln (by rw[f_,hl];rfl)
def ma.tget(h:ma M c)(e:M.trs[i]?=some t):bw (ju (M.trs.map dq.nm) λi=>.ref (Z.G (.tr i))) (.inr t.nm)=some (.ref (Z.G (.tr i))):=rQ h.tn (by rw[f_,e];rfl)
theorem ma.home(h:ma M c)(f:t∈M.trs):∃(i:Nat)(l:cP),M.las[i]?=some l/\l.nm=t.home:=by obtain⟨l,hl,e⟩:=ig.mp (h.tr t f).hm;obtain⟨i,hi⟩:=hQ.mp hl;exact⟨i,l,hi,e⟩
end
section
variable{K:N1}{H:Hp}
def cg.find(h:cg K H iv ins)(hn:(ins.map (·.1)).Nodup):∀x∈ins,∃s,bw iv (.inr x.1)=some (.ref s)/\bd K H s [.str x.2.1,.str x.2.2]:=by induction h with|nil=>exactλx b=>(nomatch b)|@cons _ y _ _ h _ c=>
  intro x b;obtain⟨h1,s,h2,h3⟩:=h;rw[ku,NW]at hn;rcases ot.mp b with rfl|b
  ·exact⟨s,by rw[cI h1,h2],h3⟩
  ·obtain⟨d,f,g⟩:=c hn.2 x b;refine⟨d,?_,g⟩;rw[bP,f];intro e;rw[h1]at e;exact hn.1 (by rw[show y.1=x.1 from o0 e];exact ig.mpr ⟨x,b,rfl⟩)
theorem cg.none(h:cg K H iv ins)(hn:g∉ins.map (·.1)):bw iv (.inr g)=Option.none:=by induction h with|nil=>rfl|@cons _ y _ _ h _ b=>
  rw[ku]at hn;rw[bP]
  ·exact b λz=>hn (g_ _ z)
  ·intro e;rw[h.1]at e;exact hn (by rw[show y.1=g from o0 e];exact hF)
def cg.drop(g:Str)(h:cg K H iv ins):cg K H (dO iv (.inr g)) (ins.filter λx=>decide (x.1≠g)):=by induction h with|nil=>exact .nil|@cons x y _ _ h _ b=>
  by_cases e:y.1=g
  ·rw[vN (by rw[h.1,e]),Na (by simp[e])];exact b
  ·rw[vO (λz=>e (by rw[h.1]at z;exact o0 z)),M_ (by simp[e])];exact .cons h b
end
def dD(ins:List (Str×Str×Str))(gs:N7):List (Str×Str×Str):=ins.filter λx=>decide (x.1∉gs)
def kS(ins:List (Str×Str×Str)):dD ins []=ins:=List.filter_eq_self.mpr λ_ _=>by simp
def qP(ins:List (Str×Str×Str))(gs:N7)(g:Str):dD ins (gs++[g])=(dD ins gs).filter λx=>decide (x.1≠g):=by
 unfold dD;rw[List.filter_filter];refine List.filter_congr λx _=>?_
 by_cases h1:x.1∈gs<;>by_cases h2:x.1=g<;>simp[h1,h2]
def Ab(h:g∈ins.map (·.1))(hn:g∉gs):∃x∈dD ins gs,x.1=g:=by obtain⟨x,b,rfl⟩:=ig.mp h;exact⟨x,oe.mpr ⟨b,by simpa using hn⟩,rfl⟩
def vH(h:(ins.map (·.1)).Nodup):((dD ins gs).map (·.1)).Nodup:=(List.Sublist.map _ List.filter_sublist).nodup h
abbrev bU.setL(M:bU)(i:Nat)(l:cP):bU:={M with las:=M.las.set i l}
def mi{M:bU}{i:Nat}{l:cP}(hl:M.las[i]?=some l):M.setL i l=M:=by
 have e:M.las.set i l=M.las:=sT λj=>by
  rw[MV]
  split
  ·rename_i q;subst q;rw[gn (d_.mp hl).1,hl]
  ·rfl
 unfold bU.setL;rw[e]
def sC{M:bU}{i:Nat}{l c:cP}:(M.setL i l).setL i c=M.setL i c:=by unfold bU.setL;rw[List.set_set]
def sE{M:bU}{i:Nat}{l l':cP}(hl:M.las[i]?=some l):(M.setL i l').las[i]?=some l':=by show(M.las.set i l')[i]?=_;rw[w1 (d_.mp hl).1]
theorem ma.setL{M:bU}{c d:Nat}(h:ma M c){i:Nat}{l e:cP}(hl:M.las[i]?=some l)(h1:e.nm=l.nm)(hc:c<=d)(ok:Fz M d e):ma (M.setL i e) d:=by
 have b:(M.las.set i e).map cP.nm=M.las.map cP.nm:=eD hl cP.nm h1;have h:=h.mono hc;refine{h with ln:=by rw[b];exact h.ln,la:=λx g=>?_,tr:=λt f=>{h.tr t f with hm:=by show t.home∈(M.las.set i e).map cP.nm;rw[b];exact(h.tr t f).hm},l4:=by show(M.las.set i e).length<=4;rw[r3];exact h.l4};rcases MR g with q|rfl
 ·exact{h.la x q with}
 ·exact{ok with}
inductive KD(P:N6)(w:World)(K:N1)(a:ic)(vs:List V)(H:Hp)(Q:VK)(_E:XK):Prop|mk(M:bU)(Z:ZS)(c i:Nat)(l:cP)(g:Addr)(gs:N7)(_:vs=[.ref (Z.G .hh),.ref (Z.G (.lo i)),.ref g])(_:cE P w K a H M Z c)(_:M.las[i]?=some l)(_:H g=some (.lst (gs.map V.str)))(_:(∀x∈gs,x∈l.ins.map (·.1)))(_:gs.Nodup)(_:gs.length<=63)(_:∀(r:Addr)(us:List V)(Z':ZS)(H':Hp),gz H M Z H' (M.setL i {l with ins:=dD l.ins gs}) Z'->cE P w K a H' (M.setL i {l with ins:=dD l.ins gs}) Z' c->H r=none->H' r=some (.lst us)->Z'.ds=Z.ds->Q (.ref r) H')
section
def ke(T:Txt K mg a):aQ P w K mg base dB 1 a.cH.x a.cH.d ["self","layer","guests"] (KD P w K a):=by
 refine T.cH.ok fb λbl A outer s H vs Q E hr h=>?_
 ·obtain⟨M,Z,c,i,l,g,gs,rfl,hZ,hl,hg,a3,a5,bi,q⟩:=h;refine⟨_,(af (bj 3 fb.nd (bu O)) (af (dJ k_ rfl (eA K rfl (Y 2)) (qF 4 fb.nd) (af (bj 5 fb.nd (xX (aI K rfl (Y 1)) (Y 4) ⟨rfl,rfl,rfl,rfl⟩)) (ah (aR (ii K rfl PySem.F.plainAttrs_list PySem.F.slot_list_append PySem.F.type_list_append eI (Y 3) (ac (aA (x5 K rfl) (bK (ac (Y 4) O)) (Y 5)) O)))))) (ah (az (au (An K rfl) (by rfl) T.yq L2.qT (ac (Y 3) O)))))),?_⟩
  refine⟨ls rfl,λo ho=>aq ?_⟩;refine gA ho λH1 s1 a6=>?_;have hL:=hZ.ok.la l (e_ hl);have a7:¬jb M Z o:=hZ.g.foot ho;have a8:(gs.map V.str).length=gs.length:=b_ ..;refine U rfl ⟨g,rfl,⟨_,aX.of (s1 _ _ hg)⟩,?_⟩;refine kx (xs:=gs.map V.str) (λk σ H'=>FC λR C=>Mq (bF P w K a H' (M.setL i {l with ins:=dD l.ins (gs.take k)}) R) (R.G=Z.G) (R.tk=Z.tk) (R.ow=Z.ow) (R.ds=Z.ds) (R.cv=Z.cv) (¬jb (M.setL i {l with ins:=dD l.ins (gs.take k)}) R o) (gz H M Z H' (M.setL i {l with ins:=dD l.ins (gs.take k)}) R) (H' g=some (.lst (gs.map V.str))) (H' o=some (.lst (C.map V.ref))) (C.length=k) ((∀u∈C,∃x y z,bd K H' u [.str x,.str y,.str z])) (FC λv4 v5=>σ=[some (.ref (Z.G .hh)),some (.ref (Z.G (.lo i))),some (.ref g),some (.ref o),v4,v5])) ⟨Z,[],by rw[z3,kS];exact(mi hl).symm▸hZ.g.same s1,rfl,rfl,rfl,rfl,rfl,by rw[z3,kS];exact(mi hl).symm▸a7,by rw[z3,kS];exact(mi hl).symm▸gz.of s1,s1 _ _ hg,a6,rfl,λu hu=>(nomatch hu),_,_,rfl⟩ (λk σ H' _ h=>by obtain⟨_,_,_,_,_,_,_,_,_,_,h,_⟩:=h;exact aX.of h) ?_ ?_
  ·rintro k v σ H2 hv⟨f,C,m,eG,aa,ad,D,ap,S,p,al,B,I,t,v4,v5,rfl⟩;rw[f_]at hv;obtain⟨x,W,rfl⟩:=Option.map_eq_some_iff.mp hv;have hk:k<gs.length:=(d_.mp W).1;have X:=cT W;have ba:x∉gs.take k:=λz=>by have:=a5;rw[<-r_ k gs,n7]at this;exact this.2.2 x z x (e_ (by rw[ND,Nat.add_zero];exact W)) rfl
   have bb:¬jb (M.setL i {l with ins:=dD l.ins (gs.take k)}) f o:=λz=>(S z);obtain⟨y,hy,ey⟩:=Ab (a3 x (e_ W)) ba;have n:=sE (l':={l with ins:=dD l.ins (gs.take k)}) hl;have as:=m.seats i _ n;obtain⟨s,ax,J⟩:=as.find (vH hL.nd) y hy;rw[ey]at ax;refine aq (gG (by rw[<-eG];exact m.layer n) T.bO T.cq rfl rfl ⟨f.G (.iu i),rfl,.inl ⟨_,.inl (m.inside n)⟩,U rfl ⟨_,.inr x,_,m.inside n,rfl,ax,aq ?_⟩⟩);have L:=m.setIns n (as.drop x);have im:=m.imm (r:=.iu i) (by simp only[cont,n];rfl) (cR (o':=.dK (dO (f.iv i) (.inr x))));have N:gz H2 _ f (aJ H2 (f.G (.iu i)) (.dK (dO (f.iv i) (.inr x)))) ((M.setL i {l with ins:=dD l.ins (gs.take k)}).setL i {l with ins:=(dD l.ins (gs.take k)).filter λz=>decide (z.1≠x)}) {f with iv:=λj=>if j=i then dO (f.iv i) (.inr x)else f.iv j}:=gz.put (show i<_ from(d_.mp n).1) rfl (r3 ..) rfl rfl λx W=>.inl W;have ay:=cR (x:=f.G (.iu i)) (o':=.dK (dO (f.iv i) (.inr x))) _ _ al λz=>by have e:=m.inside n;rw[<-z,al]at e;cases e
   have an:=cR (x:=f.G (.iu i)) (o':=.dK (dO (f.iv i) (.inr x))) _ _ B λz=>by have e:=m.inside n;rw[<-z,B]at e;cases e
   rw[sC,<-qP,<-X]at N;have L:bF P w K a (aJ H2 (f.G (.iu i)) (.dK (dO (f.iv i) (.inr x)))) (M.setL i {l with ins:=dD l.ins (gs.take (k+1))}) {f with iv:=λj=>if j=i then dO (f.iv i) (.inr x)else f.iv j}:=by rw[X,qP,<-sC (l:={l with ins:=dD l.ins (gs.take k)})];exact L
   have J:=im.kp.tq J;have t:∀u∈C,∃x1 y1 z1,bd K (aJ H2 (f.G (.iu i)) (.dK (dO (f.iv i) (.inr x)))) u [.str x1,.str y1,.str z1]:=λu hu=>let⟨x1,y1,z1,h⟩:=t u hu;⟨x1,y1,z1,im.kp.tq h⟩;generalize aJ H2 (f.G (.iu i)) (.dK (dO (f.iv i) (.inr x)))=H3 at L N ay an J t⊢;refine U rfl ⟨.inl ⟨rfl,_,aX.of an⟩,U rfl ⟨ls rfl,λT1 a0=>(U rfl ⟨T1,s,[.str x],U rfl ⟨rfl,bd.of ag,am.tseq (aj (am.refl _) a0) J,by simp,by rw[g8];simp,λz=>(nomatch z),λ_ T2 bc=>?_⟩⟩)⟩⟩;have s5:=aj (o:=.tup ([.str x]++[.str y.2.1,.str y.2.2])) (aj (o:=.tup [.str x]) (am.refl H3) a0) bc;have e5:aJ (aJ H3 T1 (.tup [.str x])) T2 (.tup ([.str x]++[.str y.2.1,.str y.2.2])) T2=some (.tup [.str x,.str y.2.1,.str y.2.2]):=ag;generalize aJ (aJ H3 T1 (.tup [.str x])) T2 (.tup ([.str x]++[.str y.2.1,.str y.2.2]))=H5 at s5 e5⊢;have a2:=s5 _ _ an;refine rA a2 (by rw[b_,I,g8];lia) ?_;have kp:Kp H5 (aJ H5 o (.lst (C.map V.ref++[.ref T2]))):=.lst a2;have nF:¬jb (M.setL i {l with ins:=dD l.ins (gs.take (k+1))}) {f with iv:=λj=>if j=i then dO (f.iv i) (.inr x)else f.iv j} o:=λz=>by
    rcases N.fp o z with q|q
    ·exact bb q
    ·rw[B]at q;cases q
   have kq:∀b ob,H5 b=some ob->b≠o->aJ H5 o (.lst (C.map V.ref++[.ref T2])) b=some ob:=cR;refine⟨{f with iv:=λj=>if j=i then dO (f.iv i) (.inr x)else f.iv j},C++[T2],(L.same s5).out nF kp kq,eG,aa,ad,D,ap,nF,((p.trans N).trans (gz.of s5)).out ho,?_,?_,by rw[ga,I];rfl,λu hu=>?_,_,_,rfl⟩
   ·exact kq _ _ (s5 _ _ ay) λz=>by rw[z,ho]at hg;cases hg
   ·rw[ag,gg];rfl
   ·rcases List.mem_append.mp hu with z|z
    ·obtain⟨x1,y1,z1,h⟩:=t u z;exact⟨x1,y1,z1,kp.tq (am.tseq s5 h)⟩
    ·rw[List.mem_singleton.mp z];exact⟨_,_,_,kp.tq (bd.of e5)⟩
  ·rintro σ H2⟨f,C,m,eG,aa,ad,D,ap,S,p,al,B,I,t,v4,v5,rfl⟩;rw[a8]at I m p;rw[hH (eN _)]at m p;refine U rfl ⟨o,C,rfl,aX.of B,by lia,t,λr vs hr hp=>?_⟩;have s6:=aj (o:=.lst (vs.map V.ref)) (am.refl H2) hr;refine q r (vs.map V.ref) f _ (p.trans (gz.of s6)) ⟨m.same s6,?_,λj=>by rw[aa];exact hZ.tk j,λj=>by rw[ad];exact hZ.ow j,by rw[D];exact hZ.ds⟩ (p.dm _ hr) ag D;refine hZ.ok.setL hl rfl (eN _) {hL with len:=j_ (pw _ _) hL.len,gs:=λx W=>hL.gs x (oe.mp W).1,nd:=vH hL.nd}
end
def JW.kp(e:Kp H H')(h:JW K H c W):JW K H' c W:=Paired.mapP h λ_ _ q=>q.imp λ_ q=>q.imp λ_ q=>⟨q.1,e.tq q.2.1,eF e q.2.2⟩
def qz(x:Str)(arms:N7)(l:Ob):Wl:=(arms.zip l).map λp=>(aV x p.1,p.2)
def FG(h:l.length=arms.length):(qz x arms l).length=arms.length:=by unfold qz;rw[b_,List.length_zip,h,Nat.min_self]
def Ie{x:Str}{arms:N7}{l:Ob}{i:Nat}{y:Str}{z:Int}(h1:arms[i]?=some y)(h2:l[i]?=some z):(qz x arms l)[i]?=some (aV x y,z):=by unfold qz;rw[f_,List.getElem?_zip_eq_some (z:=(y,z))|>.mpr ⟨h1,h2⟩];rfl
theorem rY:∀{arms:N7}{l:Ob},l.length=arms.length->(qz x arms l).map (·.1)=arms.map (aV x)|[],_,_=>rfl|y::r,[],h=>nomatch h|y::r,z::l,h=>by show aV x y::(qz x r l).map (·.1)=aV x y::r.map (aV x);rw[rY (by simpa using h)]
def Au(h:aV x y=aV z u):x=z/\y=u:=by have h:=o0 h;rw[List.cons.injEq,List.cons.injEq]at h;exact⟨o0 h.1,o0 h.2.1⟩
def Id(h:l.length=arms.length)(hn:arms.Nodup):((qz x arms l).map (·.1)).Nodup:=by rw[rY h,z4,MU];exact(z4.mp hn).imp λh e=>h (Au e).2
def Ic(h:∀i∈l,0<=i):∀y∈qz x arms l,0<=y.2:=λy b=>by obtain⟨p,c,rfl⟩:=ig.mp b;exact h _ (MH c).2
def EQ{S:AS}{j k:bC}{n:Nat}{q:Int}(h:q∈(S.give j n).pl k):q∈S.pl k:=by
 have h:q∈(if k=j then(S.pl j).take n else S.pl k):=h
 split at h
 ·rename_i e;rw[e];exact z7 h
 ·exact h
theorem lX:∀{W:Wl}{S:AS}{k:bC}{q:Int},q∈(cN S W).pl k->q∈S.pl k|[],_,_,_,h=>h|x::r,_,_,_,h=>EQ (lX (W:=r) h)
theorem lx:∀{W:Wl}{S:AS}{k:bC}{q:Int},q∈(du n S W).pl k->q∈S.pl k\/k∈W.map (·.1)
 |[],_,_,_,h=>.inl h|x::r,S,k,q,h=>by
  rcases lx (W:=r) h with h|h
  ·have h:q∈(if k=x.1 then S.pl x.1++_ else S.pl k):=h
   split at h
   ·rename_i e;exact .inr (by rw[ku,e];exact hF)
   ·exact .inl h
  ·exact .inr (g_ _ h)
section
variable{P:N6}{w:World}{K:N1}{a:ic}{H d:Hp}{M:bU}{Z:ZS}{c:Nat}
theorem cE.told(h:cE P w K a H M Z c)(hl:M.las[i]?=some l)(o:l7 (Z.G (.od i)) (Z.G (.td i)) H d)(B:eO P w K a.bS d (Z.G (.tb i)) (Z.G (.od i)) (Z.G (.td i)) M.p f s I)(J:ja M.p v f I)(L:uB (cS K H) M.p v f)(E:ft H (Z.tk i) s)(b1:s.length<=(Z.tk i).length+10)(b2:f.length<=(Z.ow i).length+5000)(hok:v.Ok M.p)(own:∀k q,q∈v.pl k->(∃C,C∈l.S.pl k)\/k=aV "" ""\/∃t∈M.trs,t.home=l.nm/\∃y∈t.arms,k=aV t.nm y):∃A,cE P w K a d (M.setL i {l with S:=v}) A (c+1)/\gz H M Z d (M.setL i {l with S:=v}) A/\A.ds=Z.ds/\A.G=Z.G:=by
 have F:=h.ok.la l (e_ hl);obtain⟨m,R,_⟩:=h.g.tab hl;have len:(M.setL i {l with S:=v}).las.length=M.las.length:=r3 ..;refine⟨_,⟨h.g.told hl o B J L E,h.ok.setL hl rfl (ov c) {F.mono (ov c)with ok:=hok,own:=λk q N=>?_},λj=>?_,λj=>?_,rl h.ds⟩,⟨rfl,λb ob e n=>?_,λb q=>?_,λb z=>oS o (by rw[B.own];simp) (by rw[B.tak];simp) z,rfl⟩,rfl,rfl⟩
 ·rcases own k q N with⟨C,h1⟩|h1
  ·exact F.own k C h1
  ·exact h1
 ·show(if j=i then s else Z.tk j).length<=_;have:=h.tk j
  split
  ·rename_i e;subst e;lia
  ·lia
 ·show(if j=i then f else Z.ow j).length<=_;have:=h.ow j
  split
  ·rename_i e;subst e;lia
  ·lia
 ·have hi:=(d_.mp hl).1;exact o b ob e (λz=>n (.inl ⟨.od i,hi,z⟩)) (λz=>n (.inl ⟨.td i,hi,z⟩))
 ·rcases q with⟨r,O,e⟩|⟨j,hj,x,u,e⟩|⟨x,u,e⟩
  ·exact .inl (.inl ⟨r,by rw[<-len];exact O,e⟩)
  ·rw[len]at hj
   replace u:x∈(if j=i then s else Z.tk j):=u
   by_cases q:j=i
   ·rw[gn q]at u;subst q;rcases E x u with⟨y,Q,D⟩|⟨T,D,hn⟩
    ·exact .inl (.inr (.inl ⟨j,hj,y,Q,by rw[D,e]⟩))
    ·rw[D]at e;cases e;exact .inr hn
   ·rw[ge q]at u;exact .inl (.inr (.inl ⟨j,hj,x,u,e⟩))
  ·exact .inl (.inr (.inr ⟨x,u,e⟩))
end
def cg.get(h:cg K H iv ins)(k:Nat)(x:cu×V)(e:iv[k]?=some x):∃y,ins[k]?=some y/\x.1=.inr y.1:=(Paired.at_ h k x e).imp λ_ q=>⟨q.1,q.2.1⟩
def cg.len(h:cg K H iv ins):iv.length=ins.length:=Paired.length h
def wO{z:Int}{l:Ob}:mw (.int z) (l.map V.int)=decide (z∈l):=by
 by_cases h:z∈l
 ·rw[il h];unfold mw;rw[Nc];exact⟨.int z,ig.mpr ⟨z,h,rfl⟩,by show(z==z)=true;exact sm z⟩
 ·rw[iA h];unfold mw;rw[List.any_eq_false];intro v b e;obtain⟨y,c,rfl⟩:=ig.mp b;have e:(y==z)=true:=e;exact h (by rw[<-eq_of_beq e];exact c)
theorem kR:∀l:List Int,(l.map V.int).all m7=true|[]=>rfl|w::r=>by rw[ku,MA,kR r];rfl
def JC(M:bU)(l:cP)(c:Ob):List Str:=(l.ins.map (·.1)).filter λg=>decide (uM M.p M.salt l.sl g∈c)
def sA(M:bU)(l:cP)(t:dq)(ns:Ob):AS:=du M.p (cN l.S (qz t.nm t.arms ns)) (qz t.nm t.arms ns)
def nh(M:bU)(i:Nat)(l:cP)(t:dq)(ns:Ob):bU:=M.setL i {l with S:=sA M l t ns,ins:=dD l.ins (JC M l (dH l.S (qz t.nm t.arms ns)))}
inductive FS(P:N6)(w:World)(K:N1)(a:ic)(vs:List V)(H:Hp)(Q:VK)(E:XK):Prop|mk(M:bU)(Z:ZS)(c i j:Nat)(l:cP)(t:dq)(nv:Addr)(ns:Ob)(_:vs=[.ref (Z.G .hh),.str t.nm,.ref nv])(_:cE P w K a H M Z c)(_:c<=63)(_:M.trs[j]?=some t)(_:M.las[i]?=some l)(_:l.nm=t.home)(_:(aX K H nv (ns.map V.int)\/bd K H nv (ns.map V.int)))(_:ns.length=t.arms.length)(_:(∀x∈ns,0<=x))(_:(jv l.S (qz t.nm t.arms ns)<=((o9 M.p l.S.oc).length:Int)->∀(r:Addr)(us:List V)(Z':ZS)(H':Hp),gz H M Z H' (nh M i l t ns) Z'->cE P w K a H' (nh M i l t ns) Z' (c+1)->H r=none->H' r=some (.lst us)->Z'.ds=Z.ds->Q (.ref r) H'))(_:(((o9 M.p l.S.oc).length:Int)<jv l.S (qz t.nm t.arms ns)->∀H',am H H'->E (.ref a.nM) none H'))
section
def gq(T:Txt K mg a):aQ P w K mg base (qy P w) 4 a.bJ.x a.bJ.d ["self","name","numbers"] (FS P w K a):=by
 refine T.bJ.okE dy λd4 A outer s H vs Q E hr h=>?_
 ·obtain⟨M,Z,c,i,j,l,t,nv,ns,rfl,u,hc,hj,hl,hh,b9,ad,cc,q,qe⟩:=h;refine⟨_,(af (bj 3 dy.nd (dG (cz hr) (aI K rfl (Y 0)) (Y 1) (λ_ _=>rfl))) (af (nA (i:=4) dy.nd rfl (.inr rfl) (dG (cz hr) (aI K rfl (Y 0)) (aI K rfl (Y 3)) (λ_ _=>rfl))) (af (nA (i:=5) dy.nd rfl (.inr rfl) (bh (aI K rfl (Y 4)) T.bp T.d8.m ((mU (P:=P) (w:=w) T).mono (by decide)) hr T.d8.b .nil de (ac (rT cY ["arm","number"] [] [7,8] (ai fc) (Ad _ 7 8) (Gu K rfl rfl T.K1 (ac (aI K rfl (Y 3)) (ac (Y 2) O))) (λcl C s₀ H₀ ex=>⟨(iD K rfl rfl (ca (oI cY ["arm","number"] 7) (ca (oI cY ["arm","number"] 8) iC))),cF,(bK (ac (bK (ac (Y 1) (ac (Y 7) O))) (ac (Y 8) O)))⟩)) O))) (af (DH (P:=P) (w:=w) (Lv 6 cY ["guest"] [] [7] (ai fc) (cb 7) (Gx (P:=P) (w:=w) (aI K rfl (Y 4))) (λcl C s₀ H₀ ex=>⟨(oI cY ["guest"] 7),(oG (aD (nB K rfl) (bh (Y 0) T.aB T.cj.m ((jr (P:=P) (w:=w) T).mono (by decide)) hr T.cj.b .nil bq (ac (Y 4) (ac (Y 7) O))) (Y 5) (by with_unfolding_all rfl))),(Y 7)⟩) dy.nd)) (ah (az (bh (Y 0) T.aB T.cH.m ((ke (P:=P) (w:=w) T).mono (by decide)) hr T.cH.b .nil bq (ac (Y 4) (ac (Y 6) O))))))))),?_⟩
  have a6:=e_ hj;have hT:=u.ok.tr t a6;have hL:=u.ok.la l (e_ hl);have hI:=u.g.house;have a7:=u.g.trial hj;obtain⟨a8,-,-⟩:=u.g.trs j t hj;have ba:=u.ok.lget (Z:=Z) hl;rw[hh]at ba;refine gG hI T.aB T.aO rfl rfl (U rfl (rG (.ref (Z.G (.tr j))) (by rw[<-u.ok.tget (Z:=Z) hj];exact dR.k (k:=.inr t.nm) u.g.tris) (aq ?_)));refine gG hI T.aB T.aP rfl rfl (gG a7 T.bf T.fE rfl rfl (rG (.ref (Z.G (.lo i))) (by rw[<-ba];exact dR.k (k:=.inr t.home) u.g.lays) (aq ?_)));obtain⟨m,bb,d5⟩:=u.g.tab hl;obtain⟨ea,ci⟩:=bb.ins;refine gG (u.g.layer hl) T.bO T.dN rfl rfl (rM ci rfl ?_);refine gG a7 T.bf T.fF rfl rfl (U rfl ⟨Z.ar j,nv,t.arms.map V.str,ns.map V.int,rfl,a8,?_⟩);have cp:(qz t.nm t.arms ns).length=t.arms.length:=FG ad;have eb:=hT.a4;refine Cl (K:=K) (a:=Z.ar j) (l:=nv) (xs:=t.arms.map V.str) (ys:=ns.map V.int) (λD k f H'=>am H H'/\H' D=some (.lst f)/\JW K H' f ((qz t.nm t.arms ns).take k)) b9 (λD hD=>⟨aj (am.refl _) hD,ag,.nil⟩) (by rw[b_,b_,ad]) (λD k f H' h=>⟨am.tseq h.1 a8,h.1⟩) ?_ ?_
  ·rintro D k x1 x2 f H2 T1 hD ay bc⟨s2,a0,L⟩cA;have hi:k<(t.arms.map V.str).length:=(d_.mp ay).1;rw[f_]at ay bc;obtain⟨ya,c0,rfl⟩:=Option.map_eq_some_iff.mp ay;obtain⟨z2,c1,rfl⟩:=Option.map_eq_some_iff.mp bc;refine gA cA λJ s3 a2=>?_;refine⟨T1,U rfl ⟨bd.of a2,rfl,_,U rfl (aq ⟨_,U rfl (aq ⟨rfl,jB (bD ?_)⟩)⟩)⟩⟩;refine U rfl (U rfl ⟨ls rfl,λB c2=>(U rfl ⟨ls rfl,λT5 bi=>?_⟩)⟩);have s5:=aj (o:=.tup [.ref B,.int z2]) (aj (o:=.tup [.str t.nm,.str ya]) s3 c2) bi;have e5:aJ (aJ J B (.tup [.str t.nm,.str ya])) T5 (.tup [.ref B,.int z2]) T5=some (.tup [.ref B,.int z2]):=ag;have e4:aJ (aJ J B (.tup [.str t.nm,.str ya])) T5 (.tup [.ref B,.int z2]) B=some (.tup [.str t.nm,.str ya]):=by rw[ao (aH ag bi)];exact ag
   have c3:f.length<=4:=by have:=Paired.length L;rw[ji]at this;lia
   show aJ (aJ J B (.tup [.str t.nm,.str ya])) T5 (.tup [.ref B,.int z2]) D=some (.lst f)/\_;generalize aJ (aJ J B (.tup [.str t.nm,.str ya])) T5 (.tup [.ref B,.int z2])=H5 at s5 e4 e5⊢;have N:=s5 _ _ a0;have kp:Kp H5 (aJ H5 D (.lst (f++[.ref T5]))):=.lst N;refine⟨N,by rw[g8];exact q_ c3 (i_ rfl),lf hi ⟨bM (s2.trans s5) hD,ag,?_⟩⟩;rw[cT (Ie c0 c1)];exact Paired.snoc ((L.kp (.of s5)).kp kp) ⟨T5,.ref B,rfl,kp.tq (bd.of e5),B,rfl,kp.tq (bd.of e4)⟩
  ·rintro D f H2 hD⟨s2,a0,L⟩;rw[b_,hH (by exact B_ cp)]at L;have a3:=u.same s2;obtain⟨m2,a5,bl⟩:=a3.g.tab hl;have ec:=u.tk i;have ed:=u.ow i;have hp:=u.ok.p;refine⟨Z.G (.tb i),Z.G (.od i),Z.G (.td i),D,M.p,Z.ow i,Z.tk i,m2,l.S,qz t.nm t.arms ns,f,rfl,a5,bl,(a3.g.tabs i l hl).2.2.1,hL.ok,a0,L,Ic cc,Id ad hT.nd,by lia,by lia,by lia,by lia,λc4 lb ef ei m' J off a2 c5 da ej R nw nl b1 b2=>aq ?_,λdc J s3=>qe dc J (s2.trans s3)⟩;obtain⟨Z3,v,di,dt,eG⟩:=a3.told hl off a2 c5 da nw b1 b2 (kD _ (i0 _ hL.ok)) λk x hx=>by
    rcases lx hx with h|h
    ·exact .inl ⟨x,lX h⟩
    ·rw[rY ad]at h;obtain⟨y,hy,rfl⟩:=ig.mp h;exact .inr (.inr ⟨t,a6,hh.symm,y,hy,rfl⟩)
   have an:=sE (l':={l with S:=sA M l t ns}) hl;have v:cE P w K a J (M.setL i {l with S:=sA M l t ns}) Z3 (c+1):=v;have bn:=v.g.seats i _ an;have W:=v.g.layer an;have F:=v.g.house;have I:=v.g.inside an;rw[eG]at F W I;refine gG W T.bO T.cq rfl rfl ⟨Z.G (.iu i),U rfl ⟨I,λep=>λDg ap=>?_⟩⟩;have nd:Z.G (.iu i)≠Dg:=λz=>by rw[<-z,ag]at ap;cases ap
   have ax:J Dg=none:=by rw[ao (mu nd)]at ap;exact ap
   have dv:(l.ins.map (·.1)).length=(Z3.iv i).length:=by rw[b_];exact bn.len.symm
   have ek:=hL.len;refine wT (n:=(Z3.iv i).length) (λk f H2=>(∀b o,J b=some o->b≠Z.G (.iu i)->H2 b=some o)/\H2 (Z.G (.iu i))=some (dE P w (Z.G (.iu i)) (Z3.iv i) ep)/\H2 Dg=some (.lst f)/\f=(((l.ins.map (·.1)).take k).filter λg=>decide (uM M.p M.salt l.sl g∈dH l.S (qz t.nm t.arms ns))).map V.str) ⟨λb o e n=>by rw[ao (aH e ax),ao n];exact e,by rw[ao nd,ag],ag,rfl⟩ (λk f H2 hk h=>⟨h.2.1,hk⟩) ?_ ?_
   ·rintro k f H4 x H5 hk⟨f4,X,aa,rfl⟩⟨rfl,hx⟩;obtain⟨p0,dT,rfl⟩:=Option.map_eq_some_iff.mp hx;obtain⟨y,hy,ey⟩:=bn.get k p0 dT;have dV:=hL.gs y (e_ hy);rw[ey];have bt:Z.G .hh≠Z.G (.iu i):=λz=>by rw[z,I]at F;cases F
    have d0:Z.G (.lo i)≠Z.G (.iu i):=λz=>by rw[z,I]at W;cases W
    have d1:lb≠Z.G (.iu i):=λz=>by rw[z,I]at R;cases R
    have d2:=hL.sl;refine aq (lj (f4 _ _ F bt) rfl rfl (U rfl (U rfl ⟨Z.G .hh,Z.G (.lo i),_,_,_,_,M.p,M.salt,l.sl,y.1,rfl,f4 _ _ F bt,rfl,rfl,f4 _ _ W d0,rfl,dV,⟨by lia,by lia⟩,⟨by exact d2.1,by lia⟩,λH6 s6=>?_⟩)));refine U rfl ⟨lb,U rfl ⟨.inl (aX.of (s6 _ _ (f4 _ _ R d1))),rfl,kR _,U rfl ?_⟩⟩;have bx:(l.ins.map (·.1)).take (k+1)=(l.ins.map (·.1)).take k++[y.1]:=cT (by rw[f_,hy];rfl);have al:((((l.ins.map (·.1)).take k).filter λg=>decide (uM M.p M.salt l.sl g∈dH l.S (qz t.nm t.arms ns))).map V.str).length<=63:=by rw[b_];refine j_ (pw _ _) ?_;rw[ji,b_];lia
    show if(if false=true then _ else mw (.int (uM M.p M.salt l.sl y.1)) _)=true then _ else _
    rw[ge hA,wO];have f6:∀b o,J b=some o->b≠Z.G (.iu i)->H6 b=some o:=λb o e n=>s6 _ _ (f4 b o e n)
    by_cases as:uM M.p M.salt l.sl y.1∈dH l.S (qz t.nm t.arms ns)
    ·rw[il as];refine bD (U rfl ⟨s6 _ _ aa,by rw[g8];lia,lf hk ⟨λb o e n=>by rw[ao (aH e ax)];exact f6 b o e n,by rw[ao nd];exact s6 _ _ X,ag,?_⟩⟩);rw[bx,E_,gg,M_ (by simpa using as)];rfl
    ·rw[iA as];refine bX (lf hk ⟨f6,s6 _ _ X,by rw[s6 _ _ aa],?_⟩);rw[bx,E_,gg,Na (by simpa using as)];exact(qr _).symm
   ·rintro f H4⟨f4,X,aa,rfl⟩;refine⟨⟨X,eN _⟩,aq ⟨Z.G (.iu i),_,ep,X,?_⟩⟩;rw[hH (by exact B_ dv)]at aa;have s4:am J (aJ H4 (Z.G (.iu i)) (.dK (Z3.iv i))):=λb o e=>by
     by_cases z:b=Z.G (.iu i)
     ·rw[z,I]at e;rw[z,ag];exact e
     ·rw[ao z];exact f4 b o e z
    have N:aJ H4 (Z.G (.iu i)) (.dK (Z3.iv i)) Dg=some (.lst ((JC M l (dH l.S (qz t.nm t.arms ns))).map V.str)):=by rw[ao (mu nd)];exact aa
    generalize aJ H4 (Z.G (.iu i)) (.dK (Z3.iv i))=H5 at s4 N⊢;refine lj (s4 _ _ F) rfl rfl (U rfl (U rfl ⟨M.setL i {l with S:=sA M l t ns},Z3,c+1,i,_,Dg,JC M l (dH l.S (qz t.nm t.arms ns)),by rw[eG];rfl,v.same s4,an,N,λx hx=>(oe.mp hx).1,List.filter_sublist.nodup hL.nd,?_,λr us Z6 H6 bz bS hr d3 b0=>?_⟩))
    ·refine j_ (pw _ _) ?_;rw[b_];lia
    ·rw[sC]at bz bS;have b8:gz H M Z H5 (M.setL i {l with S:=sA M l t ns}) Z3:=((gz.of s2).trans di).trans (gz.of s4);exact q c4 r us Z6 H6 (b8.trans bz) bS (b8.dm _ hr) d3 (b0.trans dt)
end
abbrev bU.setT(M:bU)(j:Nat)(t:dq):bU:={M with trs:=M.trs.set j t}
def jS{M:bU}{i:Nat}{t t':dq}(c:M.trs[i]?=some t):(M.setT i t').trs[i]?=some t':=by show(M.trs.set i t')[i]?=_;rw[w1 (d_.mp c).1]
section
variable{P:N6}{w:World}{K:N1}{a:ic}{H d:Hp}{M:bU}{Z:ZS}{c:Nat}
theorem ma.setT(h:ma M c){j:Nat}{t f:dq}(g:M.trs[j]?=some t)(h1:f.nm=t.nm)(h2:f.home=t.home)(h3:f.arms=t.arms)(h4:f.rule=t.rule)(h5:f.shuts=t.shuts)(p:f.bar.length<=c):ma (M.setT j f) c:=by
 have r:(M.trs.set j f).map dq.nm=M.trs.map dq.nm:=eD g dq.nm h1;refine{h with tn:=by rw[r];exact h.tn,la:=λl hl=>?_,tr:=λx b=>?_,tc:=by show(M.trs.set j f).length<=10;rw[r3];exact h.tc,br:=λx b=>?_}
 ·have q:=h.la l hl;refine{q with own:=λk z hz=>?_};rcases q.own k z hz with e|⟨x,b,m,y,n,o⟩
  ·exact .inl e
  ·obtain⟨i,hi⟩:=hQ.mp b
   by_cases e:i=j
   ·subst e;rw[g]at hi;cases hi;exact .inr ⟨f,e_ (jS g),by rw[h2];exact m,y,by rw[h3];exact n,by rw[h1];exact o⟩
   ·exact .inr ⟨x,e_ (i:=i) (by rw[ol λz=>e z.symm];exact hi),m,y,n,o⟩
 ·rcases MR b with q|rfl
  ·exact{h.tr x q with}
  ·have q:=h.tr t (e_ g);exact⟨by rw[h1];exact q.wd,by rw[h2];exact q.hm,by rw[h3];exact q.a1,by rw[h3];exact q.a4,by rw[h3];exact q.nd,by rw[h3];exact q.aw,by rw[h4];exact q.hg,by rw[h5];exact q.s8⟩
 ·rcases MR b with q|rfl
  ·exact h.br x q
  ·exact p
theorem cE.setTr(h:cE P w K a H M Z c)(e:M.trs[j]?=some t)(h1:t'.nm=t.nm)(h0:t'.home=t.home)(h2:t'.arms=t.arms)(h3:t'.rule=t.rule)(h4:t'.shuts=t.shuts)(i:t'.bar.length<=c)(f:(r0=.tr j/\t'.bar=t.bar)\/(r0=.ba j/\t'.home=t.home/\t'.pau=t.pau/\t'.clo=t.clo))(l:cont P w a (M.setT j t') Z r0=some o'):cE P w K a (aJ H (Z.G r0) o') (M.setT j t') Z c/\gz H M Z (aJ H (Z.G r0) o') (M.setT j t') Z:=by refine⟨⟨h.g.setTr e h1 h2 h3 h4 f l,h.ok.setT e h1 h0 h2 h3 h4 i,h.tk,h.ow,h.ds⟩,gz.put ?_ rfl rfl (r3 ..) rfl λx b=>.inl b⟩;have hi:=(d_.mp e).1;rcases f with⟨rfl,_⟩|⟨rfl,_⟩<;>exact hi
end
theorem vy{S:AS}:∀{W:Wl},(∀x∈W,x.2=0)->jv S W<=0|[],_=>Nv _|x::r,h=>by rw[zP,h x hF];have:=vy (S:=S) (W:=r) λy b=>h y (g_ _ b);lia
def oZ:bC:=aV "" ""
def EK(M:bU)(i:Nat)(l:cP)(z:Int):bU:=M.setL i {l with S:=du M.p (cN l.S [(oZ,z)]) [(oZ,z)]}
def nQ(t:dq):List Int:=List.replicate t.arms.length 0
inductive IG(P:N6)(w:World)(K:N1)(a:ic)(vs:List V)(H:Hp)(Q:VK)(E:XK):Prop|mk(M:bU)(Z:ZS)(c i:Nat)(l:cP)(z:Int)(_:vs=[.ref (Z.G .hh),.str l.nm,.int z])(_:cE P w K a H M Z c)(_:c<=63)(_:M.las[i]?=some l)(_:0<=z)(_:(jv l.S [(oZ,z)]<=((o9 M.p l.S.oc).length:Int)->∀(r:Addr)(Z':ZS)(H':Hp),gz H M Z H' (EK M i l z) Z'->cE P w K a H' (EK M i l z) Z' (c+1)->H r=none->H' r=some (.lst [])->Z'.ds=Z.ds->Q (.ref r) H'))(_:(((o9 M.p l.S.oc).length:Int)<jv l.S [(oZ,z)]->∀H',am H H'->E (.ref a.nM) none H'))
inductive FZ(P:N6)(w:World)(K:N1)(a:ic)(vs:List V)(H:Hp)(Q:VK)(E:XK):Prop|mk(M:bU)(Z:ZS)(c j:Nat)(t:dq)(b:Bool)(_:vs=[.ref (Z.G .hh),.str t.nm,.bl b])(_:cE P w K a H M Z c)(_:M.trs[j]?=some t)(_:∀(r:Addr)(H':Hp),gz H M Z H' (M.setT j {t with pau:=b}) Z->cE P w K a H' (M.setT j {t with pau:=b}) Z c->H r=none->H' r=some (.lst [])->Q (.ref r) H')
inductive F9(P:N6)(w:World)(K:N1)(a:ic)(vs:List V)(H:Hp)(Q:VK)(E:XK):Prop|mk(M:bU)(Z:ZS)(c i j:Nat)(l:cP)(t:dq)(_:vs=[.ref (Z.G .hh),.str t.nm])(_:cE P w K a H M Z c)(_:c<=63)(_:M.trs[j]?=some t)(_:M.las[i]?=some l)(_:l.nm=t.home)(_:∀(r:Addr)(us:List V)(Z':ZS)(H':Hp),gz H M Z H' (nh (M.setT j {t with clo:=true}) i l {t with clo:=true} (nQ t)) Z'->cE P w K a H' (nh (M.setT j {t with clo:=true}) i l {t with clo:=true} (nQ t)) Z' (c+1)->H r=none->H' r=some (.lst us)->Z'.ds=Z.ds->Q (.ref r) H')
section
def pO(T:Txt K mg a):aQ P w K mg base (qy P w) 4 a.dF.x a.dF.d ["self","name","number"] (IG P w K a):=by
 refine T.dF.okE pI λap A outer s H vs Q E t h=>?_
 ·obtain⟨M,Z,c,i,l,z,rfl,f,hc,hl,hz,q,qe⟩:=h;refine⟨_,(af (aR (bh (aI K rfl (dG (cz t) (aI K rfl (Y 0)) (Y 1) (λ_ _=>rfl))) T.bp T.d8.m ((mU (P:=P) (w:=w) T).mono (by decide)) t T.d8.b .nil de (ac (bu (ac (bK (ac (cJ (v:=.ref a.uw) ⟨_,T.Em,rfl⟩ rfl) (ac (Y 2) O))) O)) O))) (ah (az (bu O)))),?_⟩
  have hL:=f.ok.la l (e_ hl);obtain⟨m,u,as⟩:=f.g.tab hl;obtain⟨ax,F⟩:=u.ins;refine gG f.g.house T.aB T.aP rfl rfl (U rfl (rG (.ref (Z.G (.lo i))) (by rw[<-f.ok.lget (Z:=Z) hl];exact dR.k (k:=.inr l.nm) f.g.lays) ?_));refine rF (f.g.layer hl) T.bO T.dN rfl (rM F rfl ?_);refine U rfl ⟨ls rfl,λe I=>⟨ls rfl,λD hD=>?_⟩⟩;have C:=aj (o:=.lst [.ref e]) (aj (o:=.tup [.ref a.uw,.int z]) (am.refl H) I) hD;have e5:aJ (aJ H e (.tup [.ref a.uw,.int z])) D (.lst [.ref e]) D=some (.lst [.ref e]):=ag;have e4:aJ (aJ H e (.tup [.ref a.uw,.int z])) D (.lst [.ref e]) e=some (.tup [.ref a.uw,.int z]):=by rw[ao (aH ag hD)];exact ag
  generalize aJ (aJ H e (.tup [.ref a.uw,.int z])) D (.lst [.ref e])=H2 at C e4 e5⊢;have j:=f.same C;obtain⟨m2,n,y⟩:=j.g.tab hl;have ay:=f.tk i;have a0:=f.ow i;have hp:=f.ok.p;refine⟨Z.G (.tb i),Z.G (.od i),Z.G (.td i),D,M.p,Z.ow i,Z.tk i,m2,l.S,[(oZ,z)],[.ref e],rfl,n,y,(j.g.tabs i l hl).2.2.1,hL.ok,e5,.cons ⟨e,.ref a.uw,rfl,bd.of e4,a.uw,rfl,T.AU.sq _⟩ .nil,λx J=>by rw[List.mem_singleton.mp J];exact hz,by simp,by simp,by lia,by lia,by lia,λL lb a2 a3 m' N off R V W a5 an nw nl b1 b2=>?_,λX N s3=>qe X N (C.trans s3)⟩;obtain⟨Z3,aa,ad,al,eG⟩:=j.told hl off R V W nw b1 b2 (kD _ (i0 _ hL.ok)) λk x J=>by
   rcases lx J with h|h
   ·exact .inl ⟨x,lX h⟩
   ·exact .inr (.inl (List.mem_singleton.mp h))
  refine⟨ls rfl,λr t=>?_⟩;have s4:=aj (o:=.lst []) (am.refl N) t;have B:=(gz.of C).trans ad;exact q L r Z3 _ (B.trans (gz.of s4)) (aa.same s4) (B.dm _ t) ag al
def jt(T:Txt K mg a):aQ P w K mg base dB 1 a.ck.x a.ck.d ["self","name","paused"] (FZ P w K a):=by
 refine T.ck.ok jf λp A outer s H u Q E i h=>?_
 ·obtain⟨M,Z,c,j,t,b,rfl,e,hj,q⟩:=h;refine⟨_,(af (bj 3 jf.nd (dG (cz i) (aI K rfl (Y 0)) (Y 1) (λ_ _=>rfl))) (af (cG K rfl (Y 3) (Y 2)) (ah (az (bu O))))),?_⟩
  have l:=e.g.trial hj;refine gG e.g.house T.aB T.aO rfl rfl (U rfl (rG (.ref (Z.G (.tr j))) (by rw[<-e.ok.tget (Z:=Z) hj];exact dR.k (k:=.inr t.nm) e.g.tris) (aq ?_)));refine U rfl (U rfl ⟨Z.G (.tr j),_,_,U rfl ⟨l,T.bf,T.ij,by simp,?_⟩⟩);obtain⟨m,f⟩:=e.setTr (t':={t with pau:=b}) (r0:=.tr j) hj rfl rfl rfl rfl rfl (e.ok.br t (e_ hj)) (.inl ⟨rfl,rfl⟩) (by simp only[cont,jS hj];rfl);refine⟨ls rfl,λr i=>?_⟩;have n:=aj (o:=.lst []) (am.refl _) i;exact q r _ (f.trans (gz.of n)) (m.same n) (f.dm _ i) ag
def oR(T:Txt K mg a):aQ P w K mg base (qy P w) 5 a.c9.x a.c9.d ["self","name"] (F9 P w K a):=by
 refine T.c9.okE jg λap A outer s H vs Q E y h=>?_
 ·obtain⟨M,Z,c,i,j,l,t,rfl,f,hc,hj,hl,hh,q⟩:=h;refine⟨_,(af (bj 2 jg.nd (dG (cz y) (aI K rfl (Y 0)) (Y 1) (λ_ _=>rfl))) (af (cG K rfl (Y 2) dS) (ah (az (bh (Y 0) T.aB T.bJ.m ((gq (P:=P) (w:=w) T).mono (by decide)) y T.bJ.b .nil de (ac (Y 1) (ac (aA DO (bu (ac ae O)) (au (aG K rfl) (by rfl) T.bo L2.aK (ac (aI K rfl (Y 2)) O))) O))))))),?_⟩
  have z:=f.g.trial hj;refine gG f.g.house T.aB T.aO rfl rfl (U rfl (rG (.ref (Z.G (.tr j))) (by rw[<-f.ok.tget (Z:=Z) hj];exact dR.k (k:=.inr t.nm) f.g.tris) (aq ?_)));refine U rfl ⟨Z.G (.tr j),_,_,U rfl ⟨z,T.bf,T.eB,by simp,?_⟩⟩;have n:=jS (t':={t with clo:=true}) hj;obtain⟨e,B⟩:=f.setTr (t':={t with clo:=true}) (r0:=.tr j) hj rfl rfl rfl rfl rfl (f.ok.br t (e_ hj)) (.inl ⟨rfl,rfl⟩) (by simp only[cont,jS hj];rfl);have C:=e.g.house;have D:=e.g.trial n;obtain⟨u,-,-⟩:=e.g.trs j _ n;refine lj C rfl rfl (U rfl ⟨ls rfl,λF I=>?_⟩);have J:=aj (o:=.lst [.int 0]) (am.refl _) I;have e2:aJ (aJ H (Z.G (.tr j)) (.ins a.fH (Z.dx (.tr j)) [("home",.str t.home),("arms",.ref (Z.ar j)),("rule",Z.ru j),("shuts",.ref (Z.sh j)),("paused",.bl t.pau),("closed",.bl true),("barred",.ref (Z.G (.ba j)))])) F (.lst [.int 0]) F=some (.lst [.int 0]):=ag;refine gG (J _ _ D) T.bf T.fF rfl rfl ⟨_,t.arms.length,rfl,.inr ⟨_,am.tseq J u,by simp⟩,F,_,U rfl ⟨rfl,e2,by exact hY _,by have:=(f.ok.tr t (e_ hj)).a4;lia,df (by have:=(f.ok.tr t (e_ hj)).a4;simp;lia),λg hg=>?_⟩⟩;have L:=aj (o:=.lst (List.replicate (t.arms.length:Int).toNat [V.int 0]).flatten) J hg;have e0:(List.replicate (t.arms.length:Int).toNat [V.int 0]).flatten=(nQ t).map V.int:=by
   unfold nQ;rw[kt,List.map_replicate];generalize t.arms.length=j
   induction j with|zero=>rfl|succ j ih=>rw[pv,y2,ih,pv];rfl
  rw[e0]at L⊢;have N:∀x∈qz t.nm t.arms (nQ t),x.2=0:=λx R=>by obtain⟨p,hp,rfl⟩:=ig.mp R;exact List.eq_of_mem_replicate (MH hp).2
  have W:=vy (S:=l.S) N;refine⟨M.setT j {t with clo:=true},Z,c,i,j,l,{t with clo:=true},g,nQ t,rfl,e.same L,hc,n,hl,hh,.inl (aX.of ag),Mt,λx R=>by rw[List.eq_of_mem_replicate R];exact Nv _,λas r us Z' H4 X aa y ad al=>?_,λan=>absurd W (by show¬jv l.S (qz t.nm t.arms (nQ t))<=0;have:jv l.S (qz t.nm t.arms (nQ t))>_:=an;lia)⟩;have v:=B.trans (gz.of L);exact q r us Z' H4 (v.trans X) aa (v.dm _ y) ad al
end
def gO(bs:N7)(g:Str):List Str:=if g∈bs then bs else bs++[g]
def DF(bs:N7)(g:Str):fe (bs.map λg=>((.inr g:cu),V.bl true)) (.inr g) (.bl true)=(gO bs g).map λg=>((.inr g:cu),V.bl true):=by
 unfold gO
 by_cases h:g∈bs
 ·rw[gn h];unfold fe;rw[gn (by rw[List.any_map,Nc];exact⟨g,h,by simp⟩),rx];refine C_ λx _=>?_;show(if((.inr x:cu))=.inr g then((.inr x:cu),V.bl true)else _)=_
  split<;>rfl
 ·rw[ge h,oF,gg]
  ·rfl
  ·have:∀cs:List Str,g∉cs->bw (cs.map λg=>((.inr g:cu),V.bl true)) (.inr g)=none:=by
    intro cs
    induction cs with|nil=>intro _;rfl|cons x r b=>intro hn;rw[ku,bP λe=>hn (by rw[<-o0 e];exact hF)];exact b λz=>hn (g_ _ z)
   exact this bs h
theorem DZ:∀{l:List d},(l.map f).Nodup->∀x∈l,∀y∈l,f x=f y->x=y
 |[],_,x,b,_,_,_=>nomatch b|z::r,h,x,b,y,c,e=>by
  rw[ku,NW]at h;rcases ot.mp b with q|q<;>rcases ot.mp c with p|p
  ·rw[q,p]
  ·exact absurd (ig.mpr ⟨y,p,by rw[<-e,q]⟩) h.1
  ·exact absurd (ig.mpr ⟨x,q,by rw[e,p]⟩) h.1
  ·exact DZ h.2 x q y p e
def y9(l:cP)(t:dq)(g:Str):List Str:=if∃x∈l.ins,x.1=g/\x.2.1=t.nm then[g]else[]
def As(M:bU)(i j:Nat)(l:cP)(t:dq)(g:Str):bU:=(M.setT j {t with bar:=gO t.bar g}).setL i {l with ins:=dD l.ins (y9 l t g)}
inductive KJ(P:N6)(w:World)(K:N1)(a:ic)(vs:List V)(H:Hp)(Q:VK)(E:XK):Prop|mk(M:bU)(Z:ZS)(c i j:Nat)(l:cP)(t:dq)(g:Str)(_:vs=[.ref (Z.G .hh),.str g,.str t.nm])(_:cE P w K a H M Z c)(_:c<=63)(_:M.trs[j]?=some t)(_:M.las[i]?=some l)(_:l.nm=t.home)(_:Be g)(_:∀(r:Addr)(us:List V)(Z':ZS)(H':Hp),gz H M Z H' (As M i j l t g) Z'->cE P w K a H' (As M i j l t g) Z' (c+1)->H r=none->H' r=some (.lst us)->Z'.ds=Z.ds->Q (.ref r) H')
section
def rj(T:Txt K mg a):aQ P w K mg base dB 2 a.et.x a.et.d ["self","guest","name"] (KJ P w K a):=by
 refine T.et.ok ie λax A outer s H vs Q E n h=>?_
 ·obtain⟨M,Z,c,i,j,l,t,g,rfl,p,hc,hj,hl,hh,hg,q⟩:=h;refine⟨_,(af (bj 3 ie.nd (dG (cz n) (aI K rfl (Y 0)) (Y 2) (λ_ _=>rfl))) (af (bj 4 ie.nd (dG (cz n) (aI K rfl (Y 0)) (aI K rfl (Y 3)) (λ_ _=>rfl))) (af (kM dS (kN (aI K rfl (Y 3)) (Y 1) (pG (cz n)))) (af (aL (PW.pt (kL (nz (zI (cz n) (Y 1) (aI K rfl (Y 4))) rfl) (iw (aD aT (dg K (dG (cz n) (aI K rfl (Y 4)) (Y 1) (λ_ _=>rfl)) ae) (Y 2) (aF _))))) (ah (az (bh (Y 0) T.aB T.cH.m ((ke (P:=P) (w:=w) T).mono (by decide)) n T.cH.b .nil bq (ac (Y 4) (ac (bu (ac (Y 1) O)) O))))) aC) (ah (az (bu O))))))),?_⟩
  have aa:=e_ hj;have hL:=p.ok.la l (e_ hl);have B:=p.g.trial hj;have C:=p.ok.lget (Z:=Z) hl;rw[hh]at C;refine gG p.g.house T.aB T.aO rfl rfl (U rfl (rG (.ref (Z.G (.tr j))) (by rw[<-p.ok.tget (Z:=Z) hj];exact dR.k (k:=.inr t.nm) p.g.tris) (aq ?_)));refine gG p.g.house T.aB T.aP rfl rfl (gG B T.bf T.fE rfl rfl (rG (.ref (Z.G (.lo i))) (by rw[<-C];exact dR.k (k:=.inr t.home) p.g.lays) (aq ?_)));have D:=p.ok.br t aa;refine gG B T.bf T.ik rfl rfl (U rfl ⟨Z.G (.ba j),_,.inr g,rfl,rfl,p.g.barred hj,by rw[b_,g8];lia,?_⟩);rw[DF];have ay:=jS (t':={t with bar:=gO t.bar g}) hj;obtain⟨f,v⟩:=(p.mono (ov c)).setTr (t':={t with bar:=gO t.bar g}) (r0:=.ba j) (o':=.dK ((gO t.bar g).map λg=>((.inr g:cu),V.bl true))) hj rfl rfl rfl rfl rfl (by show(gO t.bar g).length<=c+1;unfold gO;split;exact rl D;rw[ga];exact tA D) (.inr ⟨rfl,rfl,rfl,rfl⟩) (by simp only[cont,jS hj];rfl);generalize aJ H (Z.G (.ba j)) (.dK ((gO t.bar g).map λg=>((.inr g:cu),V.bl true)))=H1 at f v⊢;have F:=f.g.layer hl;have I:=f.g.inside hl;have J:=f.g.seats i l hl;refine U rfl (gG F T.bO T.cq rfl rfl (rG (bw (Z.iv i) (.inr g)) (dR.k (k:=.inr g) I) (U rfl ?_)));have u:y9 l t g=[]->∀r,H1 r=none->Q (.ref r) (aJ H1 r (.lst [])):=λe r n=>by
   have L:=aj (o:=.lst []) (am.refl _) n;have em:As M i j l t g=M.setT j {t with bar:=gO t.bar g}:=by unfold As;rw[e,kS];exact mi (M:=M.setT j {t with bar:=gO t.bar g}) hl
   exact q r [] Z _ (em▸v.trans (gz.of L)) (em▸f.same L) (v.dm _ n) ag rfl
  by_cases z:g∈l.ins.map (·.1)
  ·obtain⟨x,hx,ex⟩:=ig.mp z;obtain⟨s,hv,ad⟩:=J.find hL.nd x hx;rw[ex]at hv;rw[hv];refine bD (gG F T.bO T.cq rfl rfl (U rfl (rG (.ref s) (by rw[<-hv];exact dR.k (k:=.inr g) I) (rX ad (ak (k:=0) rfl) (U rfl ⟨rfl,U rfl ?_⟩)))))
   by_cases X:x.2.1=t.nm
   ·have N:y9 l t g=[g]:=gn ⟨x,hx,ex,X⟩;rw[X];refine b7 (lj f.g.house rfl rfl (U rfl (U rfl ⟨ls rfl,λDg al=>?_⟩)));have L:=aj (o:=.lst [.str g]) (am.refl _) al;refine⟨M.setT j {t with bar:=gO t.bar g},Z,c+1,i,l,Dg,[g],rfl,f.same L,hl,ag,λy R=>by rw[List.mem_singleton.mp R];exact z,by simp,by simp,λr us Z6 H6 an ap n as S=>?_⟩;have em:As M i j l t g=(M.setT j {t with bar:=gO t.bar g}).setL i {l with ins:=dD l.ins [g]}:=by unfold As;rw[N]
    have W:=v.trans (gz.of L);exact q r us Z6 H6 (em▸W.trans an) (em▸ap) (W.dm _ n) as S
   ·have N:y9 l t g=[]:=ge λ⟨y,R,e1,e2⟩=>X (by rw[<-DZ hL.nd y R x hx (e1.trans ex.symm)];exact e2)
    refine rK X ⟨ls rfl,u N⟩
  ·have N:y9 l t g=[]:=ge λ⟨y,R,e1,e2⟩=>z (ig.mpr ⟨y,R,e1⟩);rw[J.none z];exact bX ⟨ls rfl,u N⟩
end
def xa(M:bU)(nm:Str)(sl:Int):bU:={M with las:=M.las++[⟨nm,sl,AS.new,[]⟩]}
def w9(M:bU)(t:dq):bU:={M with trs:=M.trs++[t]}
section
variable{P:N6}{w:World}{K:N1}{a:ic}{H d:Hp}{M:bU}{Z:ZS}{c:Nat}
def ma.addL(h:ma M c){nm:Str}{sl:Int}(g:Wd nm)(hn:nm∉M.las.map cP.nm)(i:0<=sl/\sl<=M.p)(h4:M.las.length<4):ma (xa M nm sl) c:=by
 have em:(M.las++[(⟨nm,sl,AS.new,[]⟩:cP)]).map cP.nm=M.las.map cP.nm++[nm]:=by rw[gg];rfl
 refine{h with ln:=?_,la:=λl hl=>?_,tr:=λt f=>{h.tr t f with hm:=?_},l4:=by show(M.las++[_]).length<=4;rw[ga];exact h4}
 ·show((M.las++[(⟨nm,sl,AS.new,[]⟩:cP)]).map cP.nm).Nodup;rw[em,n7];exact⟨h.ln,by simp,λx b y j e=>hn (by rw[<-List.mem_singleton.mp j,<-e];exact b)⟩
 ·rcases List.mem_append.mp hl with q|q
  ·exact{h.la l q with}
  ·rw[List.mem_singleton.mp q];exact⟨g,i,AS.new_ok _,j1 _,λx b=>(nomatch b),J_,λk q m=>(nomatch m)⟩
 ·show t.home∈(M.las++[(⟨nm,sl,AS.new,[]⟩:cP)]).map cP.nm;rw[em];exact u1 _ (h.tr t f).hm
def ma.addT(h:ma M c){t:dq}(ok:Hr M t)(hn:t.nm∉M.trs.map dq.nm)(h4:M.trs.length<10)(f:t.bar=[]):ma (w9 M t) c:=by
 refine{h with tn:=?_,la:=λl hl=>?_,tr:=λx b=>?_,tc:=by show(M.trs++[_]).length<=10;rw[ga];exact h4,br:=λx b=>?_}
 ·show((M.trs++[t]).map dq.nm).Nodup;rw[gg,n7];exact⟨h.tn,by simp,λx b y g e=>hn (by rw[<-show y=t.nm from List.mem_singleton.mp g,<-e];exact b)⟩
 ·have q:=h.la l hl;refine{q with own:=λk z hz=>?_};rcases q.own k z hz with e|⟨x,b,e⟩
  ·exact .inl e
  ·exact .inr ⟨x,u1 _ b,e⟩
 ·rcases List.mem_append.mp b with q|q
  ·exact{h.tr x q with}
  ·rw[List.mem_singleton.mp q];exact{ok with}
 ·rcases List.mem_append.mp b with q|q
  ·exact h.br x q
  ·rw[List.mem_singleton.mp q,f];exact j1 _
end
inductive BB(P:N6)(w:World)(K:N1)(a:ic)(vs:List V)(H:Hp)(Q:VK)(E:XK):Prop|mk(M:bU)(Z:ZS)(c:Nat)(nm:Str)(sl:Int)(_:vs=[.ref (Z.G .hh),.str nm,.int sl])(_:cE P w K a H M Z c)(_:Wd nm)(_:nm∉M.las.map cP.nm)(_:(0<=sl/\sl<=M.p))(_:M.las.length<4)(_:∀(r:Addr)(Z':ZS)(H':Hp),gz H M Z H' (xa M nm sl) Z'->cE P w K a H' (xa M nm sl) Z' c->H r=none->H' r=some (.lst [])->Z'.ds=Z.ds->Q (.ref r) H')
inductive BA(P:N6)(w:World)(K:N1)(a:ic)(vs:List V)(H:Hp)(Q:VK)(E:XK):Prop|mk(M:bU)(Z:ZS)(c:Nat)(H0:Hp)(t ba dx ar sh:Addr)(ru:V)(x:dq)(_:vs=[.ref (Z.G .hh),.str x.nm,.ref t])(_:cE P w K a H0 M Z c)(_:am H0 H)(_:H0 t=none)(_:H0 ba=none)(_:H ba=some (.dK []))(_:H t=some (.ins a.fH dx [("home",.str x.home),("arms",.ref ar),("rule",ru),("shuts",.ref sh),("paused",.bl false),("closed",.bl false),("barred",.ref ba)]))(_:bd K H0 ar (x.arms.map V.str))(_:fi K H0 x.rule ru)(_:bd K H0 sh (x.shuts.map V.str))(_:x.pau=false)(_:x.clo=false)(_:x.bar=[])(_:Hr M x)(_:x.nm∉M.trs.map dq.nm)(_:M.trs.length<10)(_:∀(r:Addr)(Z':ZS)(H':Hp),gz H0 M Z H' (w9 M x) Z'->cE P w K a H' (w9 M x) Z' c->H0 r=none->H' r=some (.lst [])->Z'.ds=Z.ds->Q (.ref r) H')
section
def oQ(T:Txt K mg a):aQ P w K mg base dB 5 a.c8.x a.c8.d ["self","name","slope"] (BB P w K a):=by
 refine T.c8.ok om λaa A outer s H vs Q E j h=>?_
 ·obtain⟨M,Z,c,nm,sl,rfl,t,hw,hn,hs,h4,q⟩:=h;refine⟨_,(af (kM (rP T.Eb ((rg (P:=P) (w:=w) T).mono (by decide)) j rfl T.GT T.eg.b .nil bq (ac (Y 2) (ac (aI K rfl (Y 0)) O))) (kN (aI K rfl (Y 0)) (Y 1) (pG (cz j)))) (ah (az (bu O)))),?_⟩
  have X:=t.g.house;refine U rfl (gG X T.aB T.bW rfl rfl (λlo ty l F ad=>?_));have f2:am H (aJ (aJ H ty (.own lo)) lo (.ins a.eY ty [])):=λb o e=>by rw[ao (aH e l),ao (aH e F)];exact e
  have m:aJ (aJ H ty (.own lo)) lo (.ins a.eY ty []) lo=some (.ins a.eY ty []):=ag;generalize aJ (aJ H ty (.own lo)) lo (.ins a.eY ty [])=H2 at f2 m⊢;refine⟨lo,ty,sl,M.p,rfl,m,λtb od td iu I u J L N R f3 hL S hu=>⟨rfl,?_⟩⟩;have f:am H I:=λb o e=>f3 b o (f2 b o e) (aH e l);refine gG (f _ _ X) T.aB T.aP rfl rfl (U rfl ⟨Z.G .ln,_,.inr nm,rfl,rfl,f _ _ t.g.lays,by rw[iE,b_,g8];exact kw h4 (i_ rfl),?_⟩);rw[oF _ (kh hn)];have v:∀b,H b=none->b≠Z.G .ln:=λb e z=>by rw[z,t.g.lays]at e;cases e
  have y:=f2.free J;have B:=f2.free L;have C:=f2.free u;have D:=f2.free N;obtain⟨dT,iT⟩:=S.ins;obtain⟨Z',e1,V,e2,W,e4,hG,lv⟩:=t.g.newL (H':=aJ I (Z.G .ln) (.dK (ju (M.las.map cP.nm) (λi=>.ref (Z.G (.lo i)))++[(.inr nm,.ref lo)]))) (nm:=nm) (sl:=sl) l D C y B R (λb o e n=>by rw[ao n];exact f b o e) ag (by rw[ao (v _ l)];exact hL) ⟨⟨dT,by rw[ao (v _ C)];exact iT⟩,by rw[ao (v _ y)];exact S.own,by rw[ao (v _ B)];exact S.tak,λx k=>(nomatch k),.nil⟩ (λz=>by rw[z,u]at m;cases m) (by rw[ao (v _ D)];exact hu)
  refine⟨ls rfl,λr j=>?_⟩;have s5:=aj (o:=.lst []) (am.refl _) j;have st:gz H M Z (aJ I (Z.G .ln) (.dK (ju (M.las.map cP.nm) (λi=>.ref (Z.G (.lo i)))++[(.inr nm,.ref lo)]))) (xa M nm sl) Z':=by
   refine⟨e1,λb o e n=>by rw[ao λz=>n (.inl ⟨.ln,trivial,z⟩)];exact f b o e,λb z=>?_,λb z=>f.free (lR z),V⟩;rcases z with⟨r,j,rfl⟩|⟨i,hi,x,k,e⟩|⟨x,k,e⟩
   ·have j:u8 (M.las++[_]).length M.trs.length r:=j;rw[ga]at j;rcases lv r j with q|⟨q,p⟩
    ·exact .inr q
    ·exact .inl (.inl ⟨r,p,q⟩)
   ·rw[(W i).1]at k;have hi:i<(M.las++[_]).length:=hi;rw[ga]at hi
    by_cases z:i=M.las.length
    ·rw[gn z]at k;cases k
    ·rw[ge z]at k;exact .inl (.inr (.inl ⟨i,by have:i<M.las.length+1:=hi;lia,x,k,e⟩))
   ·rw[e4]at k;exact .inl (.inr (.inr ⟨x,k,e⟩))
  refine q r Z' _ (st.trans (gz.of s5)) (cE.same ⟨hG,t.ok.addL hw hn hs h4,λi=>?_,λi=>?_,by rw[e2];exact t.ds⟩ s5) (st.dm _ j) ag e2
  ·rw[(W i).1]
   split
   ·exact j1 _
   ·exact t.tk i
  ·rw[(W i).2]
   split
   ·exact j1 _
   ·exact t.ow i
def oP(T:Txt K mg a):aQ P w K mg base dB 4 a.c7.x a.c7.d ["self","name","trial"] (BA P w K a):=by
 refine T.c7.ok oj λS A outer s H vs Q E f h=>?_
 ·obtain⟨M,Z,c,C,t,ba,dx,ar,sh,ru,x,rfl,j,k,l,m,V,W,X,q2,q3,x1,D,v,ok,hn,h10,q⟩:=h;refine⟨_,(af (kM (Y 2) (kN (aI K rfl (Y 0)) (Y 1) (pG (cz f)))) (ah (az (bu O)))),?_⟩
  refine U rfl (gG (k _ _ j.g.house) T.aB T.aO rfl rfl (U rfl ⟨Z.G .tn,_,.inr x.nm,rfl,rfl,k _ _ j.g.tris,by rw[iE,b_,g8];exact kw h10 (i_ rfl),?_⟩));rw[oF _ (kh hn)];have F:∀b,C b=none->b≠Z.G .tn:=λb e z=>by rw[z,j.g.tris]at e;cases e
  obtain⟨I,e1,B,J,L,e4,e5,N,lv⟩:=j.g.newT (H':=aJ H (Z.G .tn) (.dK (ju (M.trs.map dq.nm) (λi=>.ref (Z.G (.tr i)))++[(.inr x.nm,.ref t)]))) (nm:=x.nm) (home:=x.home) (arms:=x.arms) (shuts:=x.shuts) (rule:=x.rule) l m (λb o e n=>by rw[ao n];exact k b o e) ag (by rw[ao (F _ l)];exact W) (by rw[ao (F _ m)];exact V) X q2 q3;have ex:(⟨x.nm,x.home,x.arms,x.rule,x.shuts,false,false,[]⟩:dq)=x:=by obtain⟨a1,a2,a3,a4,a5,a6,a7,a8⟩:=x;simp only at x1 D v;rw[x1,D,v]
  rw[ex]at N;refine⟨ls rfl,λr f=>?_⟩;have R:=aj (o:=.lst []) (am.refl _) f;have st:gz C M Z (aJ H (Z.G .tn) (.dK (ju (M.trs.map dq.nm) (λi=>.ref (Z.G (.tr i)))++[(.inr x.nm,.ref t)]))) (w9 M x) I:=by
   refine⟨e1,λb o e n=>by rw[ao λz=>n (.inl ⟨.tn,trivial,z⟩)];exact k b o e,λb z=>?_,λb z=>k.free (lR z),B⟩;rcases z with⟨r,f,rfl⟩|⟨i,hi,y,u,e⟩|⟨y,u,e⟩
   ·have f:u8 M.las.length (M.trs++[_]).length r:=f;rw[ga]at f;rcases lv r f with q|⟨q,p⟩
    ·exact .inr q
    ·exact .inl (.inl ⟨r,p,q⟩)
   ·rw[L]at u;exact .inl (.inr (.inl ⟨i,hi,y,u,e⟩))
   ·rw[e5]at u;exact .inl (.inr (.inr ⟨y,u,e⟩))
  exact q r I _ (st.trans (gz.of R)) (cE.same ⟨N,j.ok.addT ok hn h10 v,λi=>by rw[L];exact j.tk i,λi=>by rw[e4];exact j.ow i,by rw[J];exact j.ds⟩ R) (st.dm _ f) ag J
end
section
def jq(T:Txt K mg a):aQ P w K mg base dB 1 a.cf.x a.cf.d ["self","place"] (Bw P w K a.bS):=by
 refine T.cf.ok n8 λc A outer s H i Q E e h=>?_
 ·obtain⟨t,f,j,n,ow,tk,m,p,rfl,b,q⟩:=h;refine⟨_,(ah (az (xZ (cz e) (aI K rfl (Y 0)) (Y 1) ⟨rfl,rfl,rfl,rfl⟩))),?_⟩;obtain⟨dx,g⟩:=b.ins;exact U rfl ⟨t,_,dx,_,U rfl ⟨g,T.bp,T.eC,rfl,f,rfl,.inl ⟨_,.inl b.own⟩,U rfl ⟨_,dR.k (k:=.inl p) b.own,q⟩⟩⟩
end
def vb(h:Wd x):PyData.strOk x=true:=by
 obtain⟨_,_,h⟩:=h;unfold PyData.strOk;rw[<-Array.all_toList,List.all_eq_true];intro c hc;have b:∀c∈oU.cps.toList,decide (c<1114112)=true:=by decide+kernel
 have:=i_ (b c (h c hc));simp;lia
structure rJ(P:N6)(w:World)(K:N1)(a:ic)(H0 H:Hp)(M:bU)(Z:ZS)(c:Nat):Prop where
 z:cE P w K a H0 M Z c
 k:∀b o,H0 b=some o->b≠Z.G .ln->H b=some o
section
variable{P:N6}{w:World}{K:N1}{a:ic}{d H f:Hp}{M:bU}{Z:ZS}{c:Nat}
def rJ.same(h:rJ P w K a d H M Z c)(s:am H f):rJ P w K a d f M Z c:=⟨h.z,λb o e n=>s _ _ (h.k b o e n)⟩
def rJ.kp(h:rJ P w K a d H M Z c):Kp d H:=⟨λu i e=>h.k _ _ e λz=>(by rw[z,h.z.g.lays]at e;cases e),λu o⟨b,e⟩=>⟨b,h.k _ _ e λz=>by rw[z,h.z.g.lays]at e;cases e⟩⟩
theorem rJ.at_(h:rJ P w K a d H M Z c)(e:cont P w a M Z r=some o)(n:r≠.ln):H (Z.G r)=some o:=h.k _ _ (h.z.g.at_ r o e) λz=>n (h.z.g.inj r .ln _ _ e rfl z)
def IY{p:Nat}{m sl:Int}{x:Str}(e:2<=p):0<=uM p m sl x/\uM p m sl x<p:=by
 unfold uM;have h:(0:Int)<(p:Int):=by lia
 split
 ·exact⟨MI _ (by lia),F_ _ h⟩
 ·exact⟨MI _ (by lia),F_ _ h⟩
def rJ.owner(h:rJ P w K a d H M Z c){i:Nat}{l:cP}(hl:M.las[i]?=some l){q:Int}(r:0<=q)(s:q<M.p):(bw (Z.ow i) (.inl q)).getD .non=.non\/∃b x y,(bw (Z.ow i) (.inl q)).getD .non=.ref b/\bd K H b [.str x,.str y]/\((x=""/\y="")\/∃(j:Nat)(t:dq),M.trs[j]?=some t/\t.nm=x/\(Wd y/\Wd t.nm/\y∈t.arms)):=by cases u:bw (Z.ow i) (.inl q)with|none=>exact .inl rfl|some v=>
  refine .inr ?_;obtain⟨k,A,m⟩:=(h.z.g.tabs i l hl).2.2.1 q v r s u;rcases(h.z.ok.la l (e_ hl)).own k q A with rfl|⟨t,n,_,y,o,rfl⟩
  ·obtain⟨b,rfl,e⟩:=m;exact⟨b,_,U rfl ⟨h.kp.tq e,.inl ⟨rfl,rfl⟩⟩⟩
  ·obtain⟨b,rfl,e⟩:=m;obtain⟨j,hj⟩:=hQ.mp n;have tk:=h.z.ok.tr t n;exact⟨b,_,U rfl ⟨h.kp.tq e,.inr ⟨j,t,hj,rfl,tk.aw y o,tk.wd,o⟩⟩⟩
end
inductive Iy(P:N6)(w:World)(K:N1)(a:ic)(vs:List V)(H:Hp)(Q:VK)(E:XK):Prop|mk(H0:Hp)(M:bU)(Z:ZS)(c i:Nat)(l:cP)(g:Str)(mv:V)(ms:List (Str×Int))(bl:Addr)(bs:N7)(_:vs=[.ref (Z.G .hh),.ref (Z.G (.lo i)),.str g,mv,.ref bl])(_:rJ P w K a H0 H M Z c)(_:M.las[i]?=some l)(_:Be g)(_:rH K H ms mv)(_:ms.length<=8)(_:H bl=some (.lst (bs.map V.str)))(_:(∀H',am H H'->Q .non H'))(_:∀(s:Addr)(t:dq)(y:Str)(H':Hp),am H H'->bd K H' s [.str t.nm,.str y]->t∈M.trs->y∈t.arms->Q (.ref s) H')
section
def oN(T:Txt K mg a):aQ P w K mg base dB 8 a.cZ.x a.cZ.d ["self","layer","guest","marks","been"] (Iy P w K a):=by
 refine T.cZ.ok gi λbi A outer s H vs Q E L h=>?_
 ·obtain⟨H0,M,Z,c,i,l,g,mv,ms,bl,bs,rfl,B,hl,hg,hm,bn,a0,N,qs⟩:=h;refine⟨_,(af (bj 5 gi.nd (bh (aI K rfl (Y 1)) T.bp T.cf.m ((jq (P:=P) (w:=w) T).mono (by decide)) L T.cf.b .nil bq (ac (bh (Y 0) T.aB T.cj.m ((jr (P:=P) (w:=w) T).mono (by decide)) L T.cj.b .nil bq (ac (Y 1) (ac (Y 2) O))) O))) (af (aL (PW.pt (fm (aD DP (Y 5) lO (aF _)) (dI (aD (AM K rfl (JB L)) (Y 5) (cJ (v:=.ref a.uw) ⟨_,T.Em,rfl⟩ rfl) (aF _))))) (ah (az lO)) aC) (af (bj 6 gi.nd (dG (cz L) (aI K rfl (Y 0)) (dg K (Y 5) ae) (λ_ _=>rfl))) (af (aL (PW.pt (fm (aM K rfl (aI K rfl (Y 6)) (λ_=>rfl)) (fm (nz (zI (cz L) (Y 2) (aI K rfl (Y 6))) rfl) (dI (bV (aM K rfl (bB ((yg T 6).mono (by decide)) L rfl T.dU.m T.dU.f.kp T.dU.b .nil bq (ac (aI K rfl (Y 6)) (ac (Y 3) O))) (λ_=>rfl))))))) (ah (az lO)) aC) (af (aL (aM K rfl (au (qj K rfl rfl) (by rfl) T.D6 L2.uj (ac (rT gR ["name"] [] [7] (ai gF) (cb 7) (iB K rfl (aI K rfl (Y 6))) (λcl C s₀ H₀ ex=>⟨(oI gR ["name"] 7),cF,(bT (nB K rfl) (Y 7) (Y 4) (by with_unfolding_all rfl))⟩)) O)) (λ_=>rfl)) (ah (az lO)) aC) (ah (az (Y 5)))))))),?_⟩
  have I:=B.z;have hL:=I.ok.la l (e_ hl);have hp:=I.ok.p;have a2:=hL.sl;have hI:=B.at_ (r:=.hh) rfl (by simp);have S:=B.at_ (r:=.lo i) (by simp only[cont,hl];rfl) (by simp);have W:=B.at_ (r:=.tb i) (by simp only[cont,hl];rfl) (by simp);have a3:=B.at_ (r:=.od i) (by simp only[cont,hl];rfl) (by simp);have a5:=B.at_ (r:=.td i) (by simp only[cont,hl];rfl) (by simp);have a6:=B.at_ (r:=.tn) rfl (by simp);refine gG S T.bO T.dN rfl rfl (rM W rfl (lj hI rfl rfl (U rfl (U rfl ⟨Z.G .hh,Z.G (.lo i),_,_,_,_,M.p,M.salt,l.sl,g,rfl,hI,rfl,rfl,S,rfl,hg,⟨by lia,by lia⟩,⟨by exact a2.1,by lia⟩,λH1 o=>?_⟩))));obtain⟨a7,⟨m,a8,bt⟩,bx,bz⟩:=I.g.tabs i l hl;have n:=B.same o;have X:eO P w K a.bS H1 (Z.G (.tb i)) (Z.G (.od i)) (Z.G (.td i)) M.p (Z.ow i) (Z.tk i) m:=⟨⟨_,o _ _ W⟩,o _ _ a3,o _ _ a5,λx hx=>eF n.kp (a7 x hx),a8.outs λx hx lb xs e1 e2=>n.k _ _ e2 λz=>by rw[z,I.g.lays]at e2;cases e2⟩;have hq:=IY (m:=M.salt) (sl:=l.sl) (x:=g) hp.1;refine⟨Z.G (.tb i),Z.G (.od i),Z.G (.td i),M.p,Z.ow i,Z.tk i,m,uM M.p M.salt l.sl g,rfl,X,aq ?_⟩;rcases n.owner hl hq.1 hq.2 with e|⟨b,x,y,e,hb,aa⟩
  ·rw[e];exact U rfl ⟨rfl,U rfl (bD (bD (N _ o)))⟩
  rw[e];refine U rfl ⟨rfl,U rfl (bX ?_)⟩;have ad:PyData.strOk x=true/\PyData.strOk y=true:=by
   rcases aa with⟨rfl,rfl⟩|⟨j,t,hj,rfl,h1,h2,_⟩
   ·exact⟨by decide+kernel,by decide+kernel⟩
   ·exact⟨vb h2,vb h1⟩
  refine U rfl ⟨.tuple [.str x,.str y],.tuple [.str "",.str ""],.tup hb (.cons (.str x) (.cons (.str y) .nil)),.tup (T.AU.sq _) (.cons (.str _) (.cons (.str _) .nil)),?_,by decide+kernel,U rfl ?_⟩
  ·unfold SeqAt.shaped;simp[PyData.canLay0,PyData.canLayAll0,PyData.depth,PyData.depthAll,ad.1,ad.2]
  refine wN (λ_=>N _ o) (λef=>?_);rcases aa with⟨rfl,rfl⟩|⟨j,t,hj,rfl,_,_,hy⟩
  ·exact absurd ef (by decide+kernel)
  have al:=o _ _ a6;have F:=n.at_ (r:=.tr j) (by simp only[cont,hj];rfl) (by simp);have bb:=n.at_ (r:=.ba j) (by simp only[cont,hj];rfl) (by simp);obtain⟨-,bc,an⟩:=I.g.trs j t hj;have ap:=I.ok.tr t (e_ hj);refine gG (o _ _ hI) T.aB T.aO rfl rfl (U rfl (rX hb (ak (k:=0) rfl) (rG (.ref (Z.G (.tr j))) (by rw[<-I.ok.tget (Z:=Z) hj];exact dR.k (k:=.inr t.nm) al) (aq ?_))));refine gG F T.bf T.ij rfl rfl ⟨t.pau,rfl,?_⟩;refine wN (λ_=>bD (N _ o)) (λ_=>?_);refine U rfl (gG F T.bf T.ik rfl rfl (rG _ (dR.k (k:=.inr g) bb) (U rfl ?_)));refine wN (λ_=>bD (N _ o)) (λ_=>?_);refine gG F T.bf T.mW rfl rfl (U rfl ⟨t.rule,Z.ru j,ms,mv,rfl,bc.kp n.kp,ap.hg,hm.kp (.of o),by lia,λH2 s2=>(U rfl ?_)⟩);have q:=o.trans s2;refine wN (λ_=>N _ q) (λ_=>?_);have as:=B.same q;refine gG (s2 _ _ F) T.bf T.lS rfl rfl ⟨Z.sh j,rfl,⟨_,as.kp.tq an⟩,λD hD=>?_⟩;have ax:=q _ _ a0;have h8:=ap.s8;refine ib (K:=K) (a:=Z.sh j) (xs:=t.shuts.map V.str) (λk u H'=>am H2 H'/\H' D=some (.lst u)/\∃(cs:List Bool),u=cs.map V.bl/\cs.length=k) ⟨aj (am.refl _) hD,ag,[],rfl,rfl⟩ (λk u H' _ h=>am.tseq h.1 (as.kp.tq an)) ?_ ?_
  ·rintro k v u H3 hv⟨R,J,cs,rfl,ay⟩;have hk:k<(t.shuts.map V.str).length:=(d_.mp hv).1;rw[f_]at hv;obtain⟨x,hx,rfl⟩:=Option.map_eq_some_iff.mp hv;refine aq (jB (bD (U rfl (U rfl ⟨bl,U rfl ⟨.inl (aX.of (R _ _ ax)),rfl,mh bs,J,?_,lf hk ⟨bM R hD,ag,cs++[_],by rw[gg];rfl,by rw[ga,ay];rfl⟩⟩⟩))));rw[b_]at hk⊢;rw[g8];lia
  ·rintro u H3⟨R,J,cs,rfl,ay⟩;refine⟨D,cs,rfl,aX.of J,U rfl ?_⟩;refine wN (λ_=>N _ (q.trans R)) (λ_=>?_);exact U rfl (qs b t y _ (q.trans R) (am.tseq (s2.trans R) hb) (e_ hj) hy)
end
def eL.find(g:Str)(h:eL K H dl cv cm):bw cv (.inr g)=none\/∃l c d,bw cv (.inr g)=some (.ref l)/\l≠dl/\H l=some (.lst c)/\ip K H c d/\(g,d)∈cm:=by induction h with|nil=>exact .inl rfl|@cons _ y _ _ h _ b=>
  by_cases e:y.1=g
  ·obtain⟨h1,l,c,h2,n,h3,h4⟩:=h;exact .inr ⟨l,c,y.2,by rw[cI (by rw[h1,e]),h2],n,h3,h4,by rw[<-e];exact hF⟩
  ·rw[bP (λz=>e (by rw[h.1]at z;exact o0 z))];exact b.imp id λq=>q.imp λ_ q=>q.imp λ_ q=>q.imp λ_ q=>⟨q.1,q.2.1,q.2.2.1,q.2.2.2.1,g_ _ q.2.2.2.2⟩
def ip.get(h:ip K H c d)(k:Nat)(u:V)(e:c[k]?=some u):∃y:Str×Str,∃s,u=.ref s/\bd K H s [.str y.1,.str y.2]:=(Paired.at_ h k u e).imp λ_ q=>q.2
def wb(K:N1)(H:Hp)(M:bU)(c:List V):Prop:=∀u∈c,∃(b:Addr)(i:Nat)(l:cP)(t y:Str),u=.ref b/\bd K H b [.str l.nm,.str t,.str y]/\M.las[i]?=some l
def wb.kp(e:Kp H H')(h:wb K H M c):wb K H' M c:=λu d=>let⟨b,i,l,t,y,h1,h2,h3⟩:=h u d;⟨b,i,l,t,y,h1,e.tq h2,h3⟩
inductive Gj(P:N6)(w:World)(K:N1)(a:ic)(vs:List V)(H:Hp)(Q:VK)(E:XK):Prop|mk(M:bU)(Z:ZS)(c:Nat)(g:Str)(mv:V)(ms:List (Str×Int))(_:vs=[.ref (Z.G .hh),.str g,mv])(_:cE P w K a H M Z c)(_:c<=63)(_:Be g)(_:rH K H ms mv)(_:ms.length<=8)(_:∀(r:Addr)(us:List V)(H':Hp),am H H'->H r=none->H' r=some (.lst us)->wb K H' M us->us.length<=4->Q (.ref r) H')
section
def lQ(T:Txt K mg a):aQ P w K mg base dB 9 a.cn.x a.cn.d ["self","guest","marks"] (Gj P w K a):=by
 refine T.cn.ok bG λdc A outer s H vs Q E hr h=>?_
 ·obtain⟨M,Z,c,g,mv,ms,rfl,I,hc,hg,hm,cA,q⟩:=h;refine⟨_,(af (Lv 3 fD [] [7] [7] (ai fA) (cb 7) (eA K rfl (xY (cz hr) (aI K rfl (Y 0)) (Y 1) (bu O) ⟨rfl,rfl,rfl,rfl⟩)) (λcl C s₀ H₀ ex=>⟨(oI fD [] 7),cF,(dg K (Y 7) ae)⟩) bG.nd) (af (bj 4 bG.nd (bu O)) (af (DH (P:=P) (w:=w) (dJ k_ rfl (xV (P:=P) (w:=w) (aI K rfl (Y 0))) (iD K rfl rfl (ca (qF 5 bG.nd) (ca (qF 6 bG.nd) iC))) (af (bj 7 bG.nd (xZ (cz hr) (aI K rfl (Y 6)) (Y 1) ⟨rfl,rfl,rfl,rfl⟩)) (af (aL (aD DP (Y 7) lO (aF _)) (ah (bj 7 bG.nd (bh (Y 0) T.aB T.cZ.m ((oN (P:=P) (w:=w) T).mono (by decide)) hr T.cZ.b .nil bq (ac (Y 6) (ac (Y 1) (ac (Y 2) (ac (Y 3) O))))))) aC) (ah (aL (aD GC (Y 7) lO (aF _)) (af (aR (ii K rfl PySem.F.plainAttrs_list PySem.F.slot_list_append PySem.F.type_list_append eI (Y 3) (ac (dg K (Y 7) ae) O))) (ah (aR (ii K rfl PySem.F.plainAttrs_list PySem.F.slot_list_append PySem.F.type_list_append eI (Y 4) (ac (aA (x5 K rfl) (bK (ac (Y 5) O)) (Y 7)) O))))) aC)))))) (ah (az (Y 4)))))),?_⟩
  have hI:=I.g.house;have di:=I.ok.l4;refine gG hI T.aB T.dY rfl rfl ⟨Z.G .ci,rfl,.inl ⟨_,.inl I.g.cams⟩,U rfl ⟨ls rfl,λl0 c0=>?_⟩⟩;refine gA c0 λH1 s0 e0=>?_;refine⟨bw Z.cv (.inr g),dR.k (k:=.inr g) (s0 _ _ I.g.cams),?_⟩;obtain⟨ll,J,X,ev,a7,hw,dt⟩:∃ll J X,(bw Z.cv (.inr g)).getD (.ref l0)=.ref ll/\H1 ll=some (.lst J)/\ip K H1 J X/\X.length<=630:=by
   rcases I.g.came.find g with e|⟨l,us,ss,e,_,h2,h3,h4⟩
   ·exact⟨l0,[],[],by rw[e];rfl,e0,.nil,by simp⟩
   ·have:=I.ok.cm _ h4;have:ss.length<=10*c:=this;exact⟨l,us,ss,by rw[e];rfl,s0 _ _ h2,h3.kp (.of s0),by lia⟩
  rw[ev];have dv:J.length=X.length:=Paired.length hw;refine⟨ll,rfl,⟨_,aX.of a7⟩,λD hD=>?_⟩;refine mx (K:=K) (a:=ll) (xs:=J) (λk S H'=>am H1 H'/\H' D=some (.lst S)/\∃(bs:N7),S=bs.map V.str/\bs.length=k) ⟨aj (am.refl _) hD,ag,[],rfl,rfl⟩ (λk S H' _ h=>aX.of (h.1 _ _ a7)) ?_ ?_
  ·rintro k v S H3 hv⟨s3,aa,bs,rfl,a8⟩;have hk:k<J.length:=(d_.mp hv).1;obtain⟨y,s,rfl,B⟩:=hw.get k v hv;refine aq (jB (bD (U rfl (rX (am.tseq s3 B) (ak (k:=0) rfl) ⟨aa,by rw[b_,g8];lia,lf hk ⟨bM s3 hD,ag,bs++[y.1],by rw[gg];rfl,by rw[ga,a8];rfl⟩⟩))))
  rintro S H2⟨s2,ax,bs,rfl,a8⟩;refine aq ⟨ls rfl,λR ay=>aq ?_⟩;have s3:=aj (o:=.lst []) (am.refl H2) ay;have ba:aJ H2 R (.lst []) R=some (.lst []):=ag;have aa:=s3 _ _ ax;have bb:H D=none:=s0.free hD;have a0:H R=none:=s0.free (s2.free ay);have bc:D≠R:=λz=>by rw[z,ay]at ax;cases ax
  have ad:am H (aJ H2 R (.lst [])):=(s0.trans s2).trans s3;generalize aJ H2 R (.lst [])=H3 at s3 ba aa ad⊢;refine gG (ad _ _ hI) T.aB T.aP rfl rfl ⟨Z.G .ln,U rfl ⟨ad _ _ I.g.lays,λep=>?_⟩⟩;have bi:Z.G .ln≠D:=λz=>by have e:=I.g.lays;rw[z,bb]at e;cases e
  have a2:Z.G .ln≠R:=λz=>by have e:=I.g.lays;rw[z,a0]at e;cases e
  refine EU (n:=M.las.length) (λk σ H'=>(∀b o,H b=some o->b≠Z.G .ln->H' b=some o)/\H' (Z.G .ln)=some (dE P w (Z.G .ln) (ju (M.las.map cP.nm) λi=>.ref (Z.G (.lo i))) ep)/\(∃bs:List Str,H' D=some (.lst (bs.map V.str))/\bs.length<=630+k)/\(∃us,H' R=some (.lst us)/\wb K H' M us/\us.length<=k)/\∃v5 v6 v7,σ=[some (.ref (Z.G .hh)),some (.str g),some mv,some (.ref D),some (.ref R),v5,v6,v7]) ⟨λb o e n=>by rw[ao n];exact ad b o e,ag,⟨bs,by rw[ao (mu bi)];exact aa,by lia⟩,⟨[],by rw[ao (mu a2)];exact ba,λu hu=>(nomatch hu),eN _⟩,_,_,_,rfl⟩ (λk σ H' hk h=>⟨h.2.1,by rw[iE,b_];exact hk⟩) ?_ ?_
  ·rintro k σ H4 x H5 hk⟨f4,f,⟨j,bl,a3⟩,⟨W,a5,p,ap⟩,v5,v6,v7,rfl⟩⟨T1,kk,vv,c1,rfl,rfl,bn⟩;obtain⟨l,hl⟩:∃l,M.las[k]?=some l:=⟨_,fx hk⟩;rw[wF,f_,hl]at bn;obtain⟨rfl,rfl⟩:=MC (ir bn);refine gA c1 λH5 s5 e5=>?_;have e5:H5 T1=some (.tup [.str l.nm,.ref (Z.G (.lo k))]):=e5;have L:rJ P w K a H H5 M Z c:=⟨I,λb o e n=>s5 _ _ (f4 b o e n)⟩;refine⟨T1,U rfl ⟨bd.of e5,rfl,_,U rfl (aq ⟨_,U rfl (aq ⟨rfl,?_⟩)⟩)⟩⟩;have c2:=L.at_ (r:=.lo k) (by simp only[cont,hl];rfl) (by simp);have bt:=L.at_ (r:=.iu k) (by simp only[cont,hl];rfl) (by simp);refine gG c2 T.bO T.cq rfl rfl ⟨Z.G (.iu k),rfl,.inl ⟨_,.inl bt⟩,U rfl ⟨bw (Z.iv k) (.inr g),dR.k (k:=.inr g) bt,aq ?_⟩⟩;have bx:=s5 _ _ bl;have c3:=s5 _ _ a5;refine U rfl ⟨rfl,U rfl (HW (λσ H'=>am H5 H'/\∃sv,σ=[some (.ref (Z.G .hh)),some (.str g),some mv,some (.ref D),some (.ref R),some (.str l.nm),some (.ref (Z.G (.lo k))),some sv]/\(sv=.non\/∃s t y,sv=.ref s/\bd K H' s [.str t,.str y])) ?_ ?_)⟩
   ·rintro σ H6⟨s6,sv,rfl,c4⟩;have al:=s6 _ _ bx;have bz:=s6 _ _ c3;have as:=s6 _ _ (s5 _ _ f);have f6:∀b o,H b=some o->b≠Z.G .ln->H6 b=some o:=λb o e n=>s6 _ _ (s5 _ _ (f4 b o e n));rcases c4 with rfl|⟨s,t,y,rfl,B⟩
    ·exact U rfl ⟨rfl,U rfl (bX ⟨f6,as,⟨j,al,by exact rl a3⟩,⟨W,bz,p.kp (.of (s5.trans s6)),by exact rl ap⟩,_,_,_,rfl⟩)⟩
    refine U rfl ⟨rfl,U rfl (bD (U rfl ⟨.inl ⟨rfl,_,aX.of al⟩,U rfl (rX B (ak (k:=0) rfl) (rA al (by rw[b_,g8];lia) ?_))⟩))⟩;have a6:Kp H6 (aJ H6 D (.lst (j.map V.str++[.str t]))):=.lst al;have f7:∀b o,H6 b=some o->b≠D->aJ H6 D (.lst (j.map V.str++[.str t])) b=some o:=cR;have bS:aJ H6 D (.lst (j.map V.str++[.str t])) D=some (.lst ((j++[t]).map V.str)):=by rw[ag,gg];rfl
    generalize aJ H6 D (.lst (j.map V.str++[.str t]))=H7 at a6 f7 bS⊢;have b0:=f7 _ _ bz (mu bc);have b8:=f7 _ _ as bi;refine U rfl ⟨.inl ⟨rfl,_,aX.of b0⟩,U rfl ⟨ls rfl,λT2 b9=>(U rfl ⟨T2,s,[.str l.nm],U rfl ⟨rfl,bd.of ag,am.tseq (aj (am.refl _) b9) (a6.tq B),by simp,by rw[g8];simp,λz=>(nomatch z),λ_ T3 c5=>?_⟩⟩)⟩⟩;have s9:=aj (o:=.tup ([.str l.nm]++[.str t,.str y])) (aj (o:=.tup [.str l.nm]) (am.refl H7) b9) c5;have e9:aJ (aJ H7 T2 (.tup [.str l.nm])) T3 (.tup ([.str l.nm]++[.str t,.str y])) T3=some (.tup [.str l.nm,.str t,.str y]):=ag;generalize aJ (aJ H7 T2 (.tup [.str l.nm])) T3 (.tup ([.str l.nm]++[.str t,.str y]))=H9 at s9 e9⊢;have cc:=s9 _ _ b0;refine rA cc (by rw[g8];lia) ?_;have kp:Kp H9 (aJ H9 R (.lst (W++[.ref T3]))):=.lst cc;refine⟨λb o e n=>by rw[ao (aH e a0)];exact s9 _ _ (f7 _ _ (f6 b o e n) (aH e bb)),by rw[ao a2];exact s9 _ _ b8,⟨j++[t],by rw[ao bc];exact s9 _ _ bS,by rw[ga];simp;exact tA a3⟩,⟨W++[.ref T3],ag,λu hu=>?_,by rw[ga];simp;omega⟩,_,_,_,rfl⟩;rcases List.mem_append.mp hu with z|z
    ·obtain⟨b,i,l',t',y',h1,h2,h3⟩:=p u z;exact⟨b,i,l',t',y',h1,kp.tq (am.tseq s9 (a6.tq (am.tseq (s5.trans s6) h2))),h3⟩
    ·rw[List.mem_singleton.mp z];exact⟨T3,k,l,t,y,rfl,kp.tq (bd.of e9),hl⟩
   ·intro N hN
    by_cases cp:g∈l.ins.map (·.1)
    ·obtain⟨x,hx,ex⟩:=ig.mp cp;obtain⟨s,hv,B⟩:=(I.g.seats k l hl).find (I.ok.la l (e_ hl)).nd x hx;rw[ex]at hv;rw[hv];exact bX (hN _ _ ⟨am.refl _,U rfl (.inr ⟨s,x.2.1,x.2.2,rfl,L.kp.tq B⟩)⟩)
    ·rw[(I.g.seats k l hl).none cp];have da:=L.at_ (r:=.hh) rfl (by simp);refine bD (lj da rfl rfl (U rfl (U rfl (U rfl (U rfl ⟨H,M,Z,c,k,l,g,mv,ms,D,j,rfl,L,hl,hg,hm.kp L.kp,cA,bx,λH' s'=>aq (hN _ _ ⟨s',U rfl (.inl rfl)⟩),λs t y H' s' B _ _=>aq (hN _ _ ⟨s',U rfl (.inr ⟨s,_,U rfl B⟩)⟩)⟩)))))
  ·rintro σ H4⟨f4,f,⟨j,bl,a3⟩,⟨W,a5,p,ap⟩,v5,v6,v7,rfl⟩;refine⟨⟨f,by rw[iE,b_];exact eN _⟩,Z.G .ln,_,ep,f,?_⟩;have sF:am H (aJ H4 (Z.G .ln) (.dK (ju (M.las.map cP.nm) λi=>.ref (Z.G (.lo i))))):=λb o e=>by
    by_cases z:b=Z.G .ln
    ·rw[z,I.g.lays]at e;rw[z,ag];exact e
    ·rw[ao z];exact f4 b o e z
   have kp:Kp H4 (aJ H4 (Z.G .ln) (.dK (ju (M.las.map cP.nm) λi=>.ref (Z.G (.lo i))))):=⟨λu xs e=>by rw[ao λz=>by rw[z,f]at e;cases e];exact e,λu o⟨o',e⟩=>⟨o',by rw[ao λz=>by rw[z,f]at e;cases e];exact e⟩⟩;exact U rfl (q R W _ sF a0 (by rw[ao (mu a2)];exact a5) (p.kp kp) (by lia))
end
def uL(cm:List (Str×List (Str×Str)))(g:Str)(c:List (Str×Str)):List (Str×List (Str×Str)):=if(cm.any λx=>decide (x.1=g))=true then cm.map (λx=>if x.1=g then(x.1,c)else x)else cm++[(g,c)]
def DD:(uL cm g ss).length<=cm.length+1:=by
 unfold uL
 split
 ·rw[b_];exact ov _
 ·rw[ga];exact eN _
def DC(h:x∈uL cm g c):x∈cm\/x.2=c:=by
 unfold uL at h
 split at h
 ·obtain⟨y,b,e⟩:=ig.mp h
  split at e
  ·rw[<-e];exact .inr rfl
  ·rw[<-e];exact .inl b
 ·rcases List.mem_append.mp h with q|q
  ·exact .inl q
  ·rw[List.mem_singleton.mp q];exact .inr rfl
theorem eL.any(g:Str)(h:eL K H dl cv cm):(cv.any λx=>decide (x.1=.inr g))=cm.any λx=>decide (x.1=g):=by induction h with|nil=>rfl|@cons _ y _ _ h _ b=>
  rw[vl,vl,b,h.1]
  congr 1
  by_cases e:y.1=g
  ·rw[il e,il (by rw[e])]
  ·rw[iA e,iA λz=>e (o0 z)]
def eL.put(n:l≠dl)(hl:H l=some (.lst c))(d:ip K H c f)(h:eL K H dl cv cm):eL K H dl (fe cv (.inr g) (.ref l)) (uL cm g f):=by
 unfold fe uL;rw[h.any g]
 split
 ·rename_i i;clear i
  induction h with|nil=>exact .nil|@cons x y _ _ q r j=>
   refine .cons ?_ j;obtain⟨h1,q⟩:=q
   by_cases e:y.1=g
   ·have b:x.1=.inr g:=by rw[h1,e]
    dsimp only;rw[gn b,gn e];exact⟨h1,l,c,rfl,n,hl,d⟩
   ·have b:¬x.1=.inr g:=λz=>e (by rw[h1]at z;exact o0 z);dsimp only;rw[ge b,ge e];exact⟨h1,q⟩
 ·exact Paired.snoc h ⟨rfl,l,c,rfl,n,hl,d⟩
def DE{cv:List (cu×V)}{k:cu}{v:V}{x:cu×V}(h:x∈fe cv k v):x∈cv\/x.2=v:=by
 unfold fe at h
 split at h
 ·obtain⟨y,b,e⟩:=ig.mp h
  split at e
  ·rw[<-e];exact .inr rfl
  ·rw[<-e];exact .inl b
 ·rcases List.mem_append.mp h with q|q
  ·exact .inl q
  ·rw[List.mem_singleton.mp q];exact .inr rfl
def cg.some(h:cg K H iv ins)(hg:g∈ins.map (·.1)):(bw iv (.inr g)).isSome=true:=by induction h with|nil=>cases hg|@cons _ y _ _ h _ b=>
  by_cases e:y.1=g
  ·rw[cI (by rw[h.1,e])];rfl
  ·rw[bP (λz=>e (by rw[h.1]at z;exact o0 z))];rw[ku]at hg;exact b ((ot.mp hg).resolve_left λq=>e q.symm)
def Ia(g:Str)(ins c:List (Str×Str×Str)):Prop:=c=ins\/(g∉ins.map (·.1)/\∃t y,c=ins++[(g,t,y)])
structure kB(g:Str)(M M':bU):Prop where
 p:M'.p=M.p
 salt:M'.salt=M.salt
 trs:M'.trs=M.trs
 len:M'.las.length=M.las.length
 las:∀(i:Nat)(l:cP),M.las[i]?=some l->∃ins',M'.las[i]?=some {l with ins:=ins'}/\Ia g l.ins ins'
def kB.refl(g:Str)(M:bU):kB g M M:=⟨rfl,rfl,rfl,rfl,λi l hl=>⟨l.ins,hl,.inl rfl⟩⟩
def kB.names(h:kB g M c):c.las.map cP.nm=M.las.map cP.nm:=by
 refine sT λi=>?_;rw[f_,f_]
 by_cases hi:i<M.las.length
 ·obtain⟨b,e,_⟩:=h.las i _ (fx hi);rw[e,fx hi];rfl
 ·rw[lh (by rw[h.len];exact A_ hi),lh (by exact A_ hi)]
def ma.vis(h:ma M c)(v:kB g M j)(hg:Be g)(h1:∀x∈j.came,x.2.length<=10*c+4)(h2:j.came.length<=10*c+4):ma j (c+1):=by
 have m:=v.names;refine⟨by rw[v.p];exact h.p,by rw[m];exact h.ln,by rw[v.trs];exact h.tn,λl hl=>?_,λt b=>?_,λx d=>by have:=h1 x d;lia,by rw[v.len];exact h.l4,by rw[v.trs];exact h.tc,by lia,λt b=>by rw[v.trs]at b;exact rl (h.br t b)⟩
 ·obtain⟨i,hi⟩:=hQ.mp hl;have f:i<M.las.length:=by rw[<-v.len];exact(d_.mp hi).1
  obtain⟨n,e,q⟩:=v.las i _ (fx f);rw[hi]at e;have e:=ir e;have k:=h.la _ (Mz f);rw[e];have own:∀k z,z∈(M.las[i]).S.pl k->k=aV "" ""\/∃t∈j.trs,t.home=(M.las[i]).nm/\∃y∈t.arms,k=aV t.nm y:=by rw[v.trs];exact k.own
  rcases q with rfl|⟨hn,t,y,rfl⟩
  ·exact⟨k.wd,by rw[v.p];exact k.sl,by rw[v.p];exact k.ok,rl k.len,k.gs,k.nd,own⟩
  ·refine⟨k.wd,by rw[v.p];exact k.sl,by rw[v.p];exact k.ok,by show(_++[_]).length<=c+1;rw[ga];exact tA k.len,λx d=>?_,?_,own⟩
   ·rcases List.mem_append.mp d with q|q
    ·exact k.gs x q
    ·rw[List.mem_singleton.mp q];exact hg
   ·show((_++[(g,t,y)]).map (·.1)).Nodup;rw[gg,n7];exact⟨k.nd,by simp,λx d z hz e=>hn (by rw[<-show z=g from List.mem_singleton.mp hz,<-e];exact d)⟩
 ·rw[v.trs]at b;have k:=h.tr t b;exact{k with hm:=by rw[m];exact k.hm}
def kB.step{g:Str}{M d:bU}(v:kB g M d){i:Nat}{l:cP}{c:List (Str×Str×Str)}{t y:Str}{cm:List (Str×List (Str×Str))}(hl:M.las[i]?=some l)(f:d.las[i]?=some {l with ins:=c})(hi:Ia g l.ins c)(hn:g∉c.map (·.1)):kB g M {d.setL i {l with ins:=c++[(g,t,y)]}with came:=cm}:=by
 have e:c=l.ins:=by
  rcases hi with e|⟨_,t,y,e⟩
  ·exact e
  ·exact absurd (by rw[e,gg];exact mo _ hF) hn
 refine⟨v.p,v.salt,v.trs,by rw[<-v.len];exact r3 ..,λj h h2=>?_⟩
 by_cases q:j=i
 ·subst q;rw[hl]at h2;cases h2;exact⟨_,sE f,.inr ⟨by rw[<-e];exact hn,t,y,by rw[e]⟩⟩
 ·obtain⟨b,k,m⟩:=v.las j h h2;exact⟨b,by show(d.las.set i _)[j]?=_;rw[ol λz=>q z.symm];exact k,m⟩
inductive FQ(P:N6)(w:World)(K:N1)(a:ic)(vs:List V)(H:Hp)(Q:VK)(E:XK):Prop|mk(M:bU)(Z:ZS)(c:Nat)(g:Str)(mv:V)(ms:List (Str×Int))(_:vs=[.ref (Z.G .hh),.str g,mv])(_:cE P w K a H M Z c)(_:c<=63)(_:Be g)(_:rH K H ms mv)(_:ms.length<=8)(_:∀(r:Addr)(us:List V)(M':bU)(Z':ZS)(H':Hp),kB g M M'->gz H M Z H' M' Z'->cE P w K a H' M' Z' (c+1)->H r=none->H' r=some (.lst us)->Z'.ds=Z.ds->Q (.ref r) H')
section
def oO(T:Txt K mg a):aQ P w K mg base dB 10 a.c6.x a.c6.d ["self","guest","marks"] (FQ P w K a):=by
 refine T.c6.ok cM λes A outer s H vs Q E hr h=>?_
 ·obtain⟨M,Z,c,g,mv,ms,rfl,X,hc,hg,hm,d0,q⟩:=h;refine⟨_,(af (bj 3 cM.nd (bh (Y 0) T.aB T.cn.m ((lQ (P:=P) (w:=w) T).mono (by decide)) hr T.cn.b .nil bq (ac (Y 1) (ac (Y 2) O)))) (af (dJ k_ rfl (eA K rfl (Y 3)) (iD K rfl rfl (ca (qF 4 cM.nd) (ca (qF 5 cM.nd) (ca (qF 6 cM.nd) iC)))) (af (bj 7 cM.nd (dG (cz hr) (aI K rfl (Y 0)) (Y 4) (λ_ _=>rfl))) (ah (aL (nz (pL (cz hr) (Y 1) (aI K rfl (Y 7))) rfl) (af (kM (bK (ac (Y 5) (ac (Y 6) O))) (kN (aI K rfl (Y 7)) (Y 1) (pG (cz hr)))) (ah (kM (aA wC (xY (cz hr) (aI K rfl (Y 0)) (Y 1) (bu O) ⟨rfl,rfl,rfl,rfl⟩) (bu (ac (bK (ac (Y 5) (ac (Y 6) O))) O))) (kN (aI K rfl (Y 0)) (Y 1) (pG (cz hr)))))) aC)))) (ah (az (Y 3))))),?_⟩
  refine lj X.g.house rfl rfl (U rfl (U rfl ⟨M,Z,c,g,mv,ms,rfl,X,hc,hg,hm,d0,λr us H1 s1 hr bS b0 ew=>aq ?_⟩));have d1:¬jb M Z r:=X.g.foot hr;refine U rfl ⟨r,rfl,⟨_,aX.of bS⟩,?_⟩;refine qb (xs:=us) (λk σ H'=>FC λM' Z'=>Mr (kB g M M') (bF P w K a H' M' Z') (Z'.tk=Z.tk) (Z'.ow=Z.ow) (Z'.ds=Z.ds) ((∀x∈M'.came,x.2.length<=10*c+k)) (M'.came.length<=10*c+k) (gz H M Z H' M' Z') (¬jb M' Z' r) (H' r=some (.lst us)) (wb K H' M us) (Ex4 λv4 v5 v6 v7=>σ=[some (.ref (Z.G .hh)),some (.str g),some mv,some (.ref r),v4,v5,v6,v7])) ⟨M,Z,kB.refl g M,X.g.same s1,rfl,rfl,rfl,X.ok.cm,X.ok.cl,gz.of s1,d1,bS,b0,_,_,_,_,rfl⟩ (λk σ H' _ h=>by obtain⟨_,_,_,_,_,_,_,_,_,_,_,h,_⟩:=h;exact aX.of h) ?_ ?_
  ·rintro k v σ H2 hv⟨M2,f,v2,F,a5,a6,aa,ad,b8,al,an,ap,I,v4,v5,v6,v7,rfl⟩N R B hN;have hk:k<us.length:=(d_.mp hv).1;obtain⟨b,i,l,t,y,rfl,hb,hl⟩:=I v (e_ hv);refine⟨b,U rfl ⟨hb,rfl,_,U rfl (aq ⟨_,U rfl (aq ⟨_,U rfl (aq ⟨rfl,?_⟩)⟩)⟩)⟩⟩;obtain⟨p,J,b9⟩:=v2.las i l hl;have cc:f.G .hh=Z.G .hh:=al.hh;have cp:=F.house;have cA:=F.lays;have c0:bw (ju (M2.las.map cP.nm) λi=>V.ref (f.G (.lo i))) (.inr l.nm)=some (.ref (f.G (.lo i))):=rQ (by rw[v2.names];exact X.ok.ln) (by rw[f_,J];rfl);rw[cc]at cp;refine gG cp T.aB T.aP rfl rfl (U rfl (rG (.ref (f.G (.lo i))) (by rw[<-c0];exact dR.k (k:=.inr l.nm) cA) (aq ?_)));have c1:=F.layer J;have c2:=F.inside J;refine U rfl (gG c1 T.bO T.cq rfl rfl (rG (bw (f.iv i) (.inr g)) (dR.k (k:=.inr g) c2) (U rfl ?_)));have ba:=F.seats i _ J
   by_cases bb:g∈p.map (·.1)
   ·rw[ba.some bb];exact bX (hN _ _ ⟨M2,f,v2,F,a5,a6,aa,λx hx=>by have:=ad x hx;omega,by omega,al,an,ap,I,_,_,_,_,rfl⟩)
   ·have as:=ba.none bb;rw[as];refine bD (U rfl (U rfl ⟨ls rfl,λT1 d2=>?_⟩));refine gA d2 λH3 s3 e3=>?_;have bc:=F.same s3;have d3:(f.iv i).length<=100:=by
     rw[ba.len];show p.length<=100;have:=(X.ok.la l (e_ hl)).len;rcases b9 with e|⟨_,_,_,e⟩
     ·rw[e];lia
     ·rw[e,ga];simp;lia
    refine gG (s3 _ _ c1) T.bO T.cq rfl rfl (U rfl ⟨f.G (.iu i),_,.inr g,rfl,rfl,s3 _ _ c2,by rw[g8];exact q_ d3 (i_ rfl),?_⟩);rw[oF _ as];have L:bF P w K a (aJ H3 (f.G (.iu i)) (.dK (f.iv i++[(.inr g,.ref T1)]))) (M2.setL i {l with ins:=p++[(g,t,y)]}) {f with iv:=λj=>if j=i then f.iv i++[(.inr g,.ref T1)]else f.iv j}:=bc.setIns (iv':=f.iv i++[(.inr g,.ref T1)]) (ins':=p++[(g,t,y)]) J (Paired.snoc (bc.seats i _ J) ⟨rfl,T1,rfl,bd.of e3⟩);have c3:=(d_.mp J).1;have ax:gz H3 M2 f (aJ H3 (f.G (.iu i)) (.dK (f.iv i++[(.inr g,.ref T1)]))) (M2.setL i {l with ins:=p++[(g,t,y)]}) {f with iv:=λj=>if j=i then f.iv i++[(.inr g,.ref T1)]else f.iv j}:=gz.put (show i<_ from c3) rfl (r3 ..) rfl rfl λx hx=>.inl hx;have bi:=bc.imm (r:=.iu i) (by simp only[cont,J];rfl) (cR (o':=.dK (f.iv i++[(.inr g,.ref T1)])));have bl:=cR (x:=f.G (.iu i)) (o':=.dK (f.iv i++[(.inr g,.ref T1)])) _ _ (s3 _ _ ap) λz=>an (.inl ⟨.iu i,c3,z⟩);have bn:¬jb (M2.setL i {l with ins:=p++[(g,t,y)]}) {f with iv:=λj=>if j=i then f.iv i++[(.inr g,.ref T1)]else f.iv j} r:=λz=>(ax.fp r z).elim an λz=>by rw[s3 _ _ ap]at z;cases z
    have d4:=bi.kp.tq (K:=K) (bd.of e3);have ay:=(I.kp (.of s3)).kp bi.kp;generalize c4:M2.setL i {l with ins:=p++[(g,t,y)]}=M4 at L ax bn;generalize a0:({f with iv:=λj=>if j=i then f.iv i++[(.inr g,.ref T1)]else f.iv j}:ZS)=C at L ax bn;have a2:C.G=f.G:=by rw[<-a0]
    have ep:C.cv=f.cv:=by rw[<-a0]
    have c5:C.tk=f.tk:=by rw[<-a0]
    have da:C.ow=f.ow:=by rw[<-a0]
    have dc:C.ds=f.ds:=by rw[<-a0]
    have S:M4.came=M2.came:=by rw[<-c4]
    generalize aJ H3 (f.G (.iu i)) (.dK (f.iv i++[(.inr g,.ref T1)]))=H4 at L ax bi bl d4 ay⊢;have bt:=L.house;rw[a2,cc]at bt;have a7:=L.cams;rw[a2]at a7;refine gG bt T.aB T.dY rfl rfl ⟨f.G .ci,rfl,.inl ⟨_,.inl a7⟩,U rfl ⟨ls rfl,λl0 d5=>?_⟩⟩;refine gA d5 λH5 s5 e5=>?_;refine⟨bw C.cv (.inr g),dR.k (k:=.inr g) (s5 _ _ a7),_,rfl,U rfl ⟨ls rfl,λW ea=>⟨ls rfl,λl1 di=>?_⟩⟩⟩;have s7:=aj (o:=.lst [.ref W]) (aj (o:=.tup [.str t,.str y]) (am.refl H5) ea) di;have e7:aJ (aJ H5 W (.tup [.str t,.str y])) l1 (.lst [.ref W]) l1=some (.lst [.ref W]):=ag;have e6:aJ (aJ H5 W (.tup [.str t,.str y])) l1 (.lst [.ref W]) W=some (.tup [.str t,.str y]):=by rw[ao (aH ag di)];exact ag
    generalize aJ (aJ H5 W (.tup [.str t,.str y])) l1 (.lst [.ref W])=H7 at s7 e6 e7⊢;have a8:=s5.trans s7;obtain⟨ll,u,D,ev,eb,dt,ec⟩:∃ll u D,(bw C.cv (.inr g)).getD (.ref l0)=.ref ll/\H7 ll=some (.lst u)/\ip K H7 u D/\D.length<=10*c+k:=by
     rcases L.came.find g with e|⟨ed,ef,ei,e,_,h2,h3,h4⟩
     ·exact⟨l0,[],[],by rw[e];rfl,s7 _ _ e5,.nil,by simp⟩
     ·rw[S]at h4;have:=ad _ h4;exact⟨ed,ef,ei,by rw[e];rfl,a8 _ _ h2,h3.kp (.of a8),this⟩
    have eq:u.length=D.length:=Paired.length dt;rw[ev];refine⟨ll,l1,u,[.ref W],rfl,rfl,eb,e7,by rw[g8];simp;lia,λlp bx=>?_⟩;have s8:=aj (o:=.lst (u++[.ref W])) a8 bx;have e8:aJ H7 lp (.lst (u++[.ref W])) lp=some (.lst (u++[.ref W])):=ag;have dv:ip K (aJ H7 lp (.lst (u++[.ref W]))) (u++[.ref W]) (D++[(t,y)]):=ip.kp (Kp.new bx) (Paired.snoc dt ⟨W,rfl,bd.of e6⟩);have a3:H4 lp=none:=a8.free bx;generalize aJ H7 lp (.lst (u++[.ref W]))=H8 at s8 e8 dv⊢;have bz:=L.same s8;have er:C.cv.length<=10*c+k:=by have:=Paired.length L.came;rw[this,S];exact b8
    refine gG (s8 _ _ bt) T.aB T.dY rfl rfl (U rfl ⟨f.G .ci,_,.inr g,rfl,rfl,s8 _ _ a7,by rw[g8];lia,?_⟩);have ej:lp≠C.G .dl:=λz=>by rw[z,L.dees]at a3;cases a3
    have ek:bF P w K a (aJ H8 (f.G .ci) (.dK (fe C.cv (.inr g) (.ref lp)))) {M4 with came:=uL M4.came g (D++[(t,y)])} {C with cv:=fe C.cv (.inr g) (.ref lp)}:=by rw[show f.G .ci=C.G .ci by rw[a2]];exact bz.setCame (bz.came.put (g:=g) ej e8 dv)
    have dT:=bz.imm (r:=.ci) rfl (cR (o':=.dK (fe C.cv (.inr g) (.ref lp))));rw[a2]at dT;have dV:gz H4 M4 C (aJ H8 (f.G .ci) (.dK (fe C.cv (.inr g) (.ref lp)))) {M4 with came:=uL M4.came g (D++[(t,y)])} {C with cv:=fe C.cv (.inr g) (.ref lp)}:=by
     refine⟨rfl,λb o e n=>by rw[ao λz=>n (.inl ⟨.ci,trivial,by rw[a2];exact z⟩)];exact s8 b o e,λb z=>?_,λb z=>s8.free (lR z),rfl⟩;rcases z with z|z|⟨x,hx,e⟩
     ·exact .inl (.inl z)
     ·exact .inl (.inr (.inl z))
     ·rcases DE hx with q|q
      ·exact .inl (.inr (.inr ⟨x,q,e⟩))
      ·rw[q]at e;cases e;exact .inr a3
    have v9:kB g M {M4 with came:=uL M4.came g (D++[(t,y)])}:=by rw[<-c4];exact v2.step hl J b9 bb
    have el:=(al.trans (gz.of s3)).trans (ax.trans dV);have en:aJ H8 (f.G .ci) (.dK (fe C.cv (.inr g) (.ref lp))) r=some (.lst us):=by rw[ao λz=>an (.inl ⟨.ci,trivial,z⟩)];exact s8 _ _ bl
    refine hN _ _ ⟨_,{C with cv:=fe C.cv (.inr g) (.ref lp)},v9,ek,c5.trans a5,da.trans a6,dc.trans aa,λx hx=>?_,?_,el,λz=>(dV.fp r z).elim bn (λz=>by rw[bl]at z;cases z),en,(ay.kp (.of s8)).kp dT.kp,_,_,_,_,rfl⟩
    ·rcases DC hx with q|q
     ·rw[S]at q;have:=ad x q;exact rl this
     ·rw[q,ga];simp;exact tA ec
    ·have:=DD (cm:=M4.came) (g:=g) (ss:=D++[(t,y)]);rw[S]at this;show(uL M4.came g (D++[(t,y)])).length<=_;rw[S];lia
  ·rintro σ H2⟨M2,f,v2,F,a5,a6,aa,ad,b8,al,an,ap,I,v4,v5,v6,v7,rfl⟩;exact U rfl (q r us M2 f H2 v2 al ⟨F,X.ok.vis v2 hg (λx hx=>by have:=ad x hx;lia) (by lia),λj=>by rw[a5];have:=X.tk j;exact j_ this (M8 _ _),λj=>by rw[a6];have:=X.ow j;exact j_ this (M8 _ _),by rw[aa];have:=X.ds;exact rl this⟩ hr ap aa)
end
inductive Ge(K:N1)(g:Addr)(vs:List V)(H:Hp)(Q:VK)(_E:XK):Prop|mk(d:Addr)(k:Str)(xs:List V)(_:vs=[.ref d])(_:bd K H d (.str k::xs))(_:(∃tk,PySem.W.nsIn K g k=some (some (.int ((xs.length:Int)+1) tk))))(_:Q .non H)
inductive Di(K:N1)(vs:List V)(H:Hp)(Q:VK)(_E:XK):Prop|mk(t d:Addr)(l:N7)(kvs:List (cu×V))(_:vs=[.ref t,.ref d])(_:bd K H t (l.map V.str))(_:H d=some (.dK kvs))(_:(∀x∈l,Wd x/\(bw kvs (.inr x)).isSome=true))(_:l.Nodup)(_:l.length<=8)(_:∀H',am H H'->Q .non H')
inductive Dh(P:N6)(w:World)(K:N1)(a:ic)(vs:List V)(H:Hp)(Q:VK)(_E:XK):Prop|mk(z:Int)(M:bU)(Z:ZS)(_:vs=[.int z,.int M.p,.ref (Z.G .ln)])(_:bF P w K a H M Z)(_:M.las.length<=4)(_:0<=z)(_:z<=M.p)(_:z∉M.las.map cP.sl)(_:∀H',am H H'->Q .non H')
inductive Dc(K:N1)(vs:List V)(H:Hp)(Q:VK)(_E:XK):Prop|mk(d ly tr ar sh:Addr)(ru:V)(x y:Str)(r:Ru)(ws l ss:N7)(lk tk:List (cu×V))(_:vs=[.ref d,.ref ly,.ref tr])(_:bd K H d [.str "trial",.str x,.str y,.ref ar,ru,.ref sh])(_:Wd x)(_:Wd y)(_:H ly=some (.dK lk))(_:H tr=some (.dK tk))(_:bw tk (.inr x)=none)(_:(bw lk (.inr y)).isSome=true)(_:bd K H ar (l.map V.str))(_:(∀w∈l,Wd w))(_:l.Nodup)(_:1<=l.length)(_:l.length<=4)(_:fi K H r ru)(_:r.hgt<=6)(_:r.cnt<=30)(_:jJ ws r)(_:(∀w∈ws,Wd w))(_:ws.length<=3)(_:bd K H sh (ss.map V.str))(_:(∀x∈ss,Wd x/\(bw tk (.inr x)).isSome=true))(_:ss.Nodup)(_:ss.length<=8)(_:∀H',am H H'->Q .non H')
section
def uP(T:Txt K mg a)(f:w.params=a.pm):aQ P w K mg base dB 1 a.gM.x a.gM.d ["deed"] (Ge K a.fj):=by
 refine T.gM.ok uH λg A outer s H j Q E l h=>?_
 ·obtain⟨d,k,c,rfl,b,⟨tk,i⟩,q⟩:=h;refine⟨_,(af (aL (PW.pt (fm (bV (aM K rfl (au (eW K rfl) (by rfl) T.bE L2.a9 (ac (Y 0) (ac (jm rfl T.eM L2.ce) O))) (λ_=>rfl))) (dI (aD aT (au (aG K rfl) (by rfl) T.bo L2.aK (ac (Y 0) O)) ae (aF _))))) (ah cx) aC) (ah (aL (PW.pt (fm (bV (aM K rfl (au (iL K rfl) (by rfl) T.bE L2.a9 (ac (dg K (Y 0) ae) (ac (jm rfl T.HI L2.y6) O))) (λ_=>rfl))) (dI (aD HH (Gz K rfl (L8 f T.zX) rfl T.B0 (dg K (Y 0) ae) ⟨rfl,rfl,rfl,rfl⟩) (au (aG K rfl) (by rfl) T.bo L2.aK (ac (Y 0) O)) (aF _))))) (ah cx) aC))),?_⟩
  refine U rfl ⟨_,"tuple",_,true,rfl,.inr ⟨d,U rfl ⟨b,rfl⟩⟩,fC (by decide+kernel),true,rfl,bX ?_⟩;refine U rfl ⟨_,U rfl ⟨.inr ⟨_,b,rfl⟩,rfl,U rfl (kj (λh=>absurd h (by rw[kl];exact i_ rfl)) (λ_=>?_))⟩⟩;refine U rfl (rX b (ak (k:=0) rfl) ?_);refine⟨_,"str",_,true,rfl,.str k,fC (by decide+kernel),true,rfl,bX ?_⟩;refine U rfl (rX b (ak (k:=0) rfl) ⟨k,U rfl ⟨i,.inr ⟨_,.int ((c.length:Int)+1),rfl,⟨tk,rfl⟩,?_⟩⟩⟩);refine U rfl ⟨_,U rfl ⟨.inr ⟨_,b,rfl⟩,rfl,U rfl ?_⟩⟩;have e:decide (V.int ((c.length:Int)+1)=V.int (((V.str k::c).length:Nat):Int))=true:=il (by simp);rw[e];exact q
def tO(T:Txt K mg a):aQ P w K mg base dB 5 a.fU.x a.fU.d ["thing","trials"] (Di K):=by
 refine T.fU.ok iS λS A outer s H vs Q E W h=>?_
 ·obtain⟨t,d,l,B,rfl,b,hd,hl,C,h8,q⟩:=h;refine⟨_,(af (aL (PW.pt (fm (bV (aM K rfl (au (eW K rfl) (by rfl) T.bE L2.a9 (ac (Y 0) (ac (jm rfl T.eM L2.ce) O))) (λ_=>rfl))) (dI (aD qG (au (aG K rfl) (by rfl) T.bo L2.aK (ac (Y 0) O)) (cJ T.wY rfl) (aF _))))) (ah cx) aC) (ah (dJ k_ rfl (Gy K rfl rfl T.yr (ac (Y 0) O)) (iD K rfl rfl (ca (qF 2 iS.nd) (ca (qF 3 iS.nd) iC))) (af (aR (pc T.bR (dz T) W (ac (Y 3) (ac (Y 1) O)))) (ah (aL (aD (nB K rfl) (Y 3) (gk (AB K rfl) (Y 0) iy (ix (Y 2))) (by with_unfolding_all rfl)) (ah cx) aC)))))),?_⟩
  refine U rfl ⟨_,"tuple",_,true,rfl,.inr ⟨t,U rfl ⟨b,rfl⟩⟩,fC (by decide+kernel),true,rfl,bX ?_⟩;refine U rfl ⟨_,l.length,rfl,.inr ⟨_,b,by simp⟩,_,U rfl ⟨rfl,U rfl (iZ (λh=>absurd h (by lia)) (λ_=>?_))⟩⟩;refine U rfl ⟨t,U rfl ⟨b,?_⟩⟩;refine EU (n:=l.length) (λk j H'=>am H H'/\(FC λD F=>j=[some (.ref t),some (.ref d),D,F])) ⟨am.refl H,_,_,rfl⟩ (λk j H' L h=>⟨_,.str l[k],am.tseq h.1 b,by rw[f_,fx L];rfl⟩) ?_ ?_
  ·rintro k j m v X L⟨c,D,F,rfl⟩⟨r,x,G,rfl,rfl,y⟩;have y:=y _ (am.tseq c b);rw[f_]at y;obtain⟨z,hz,rfl⟩:=Option.map_eq_some_iff.mp y;have I:=aj (o:=.tup [.int k,.str z]) c G;have M:aJ m r (.tup [.int k,.str z]) r=some (.tup [.int k,.str z]):=ag;generalize aJ m r (.tup [.int k,.str z])=X at I M⊢;refine⟨r,U rfl ⟨bd.of M,rfl,_,U rfl (aq ⟨_,U rfl (aq ⟨rfl,?_⟩)⟩)⟩⟩;have f:=hl z (e_ hz);refine U rfl (U rfl ⟨z,d,B,rfl,f.1,I _ _ hd,f.2,λH3 Z=>?_⟩);have g:=I.trans Z;refine U rfl (U rfl (U rfl (U rfl ⟨t,U rfl ⟨am.tseq g b,?_,λp hp=>?_⟩⟩)))
   ·rintro⟨_,e⟩;rw[b_]at e;have e:(if(k:Int)<0 then((k:Int)+(l.length:Int)).toNat else min (k:Int).toNat l.length)=l.length:=e;rw[ge (by exact i_ rfl)]at e;lia
   ·rw[Am _ (by exact hY _)];refine⟨p,U rfl ⟨.inr (bd.of ag),rfl,?_,U rfl ?_⟩⟩
    ·rw[<-NA];exact mh _
    ·rw[<-NA];have J:z∉l.take (k:Int).toNat:=λh=>by have:=C;rw[<-r_ k l,n7]at this;exact this.2.2 z (by simpa using h) z (e_ (i:=0) (by rw[ND,Nat.add_zero];exact hz)) rfl
     have e:mw (.str z) ((l.take (k:Int).toNat).map V.str)=false:=by cases N:mw (.str z) ((l.take (k:Int).toNat).map V.str)with|false=>rfl|true=>unfold mw at N;obtain⟨v,hv,e⟩:=Nc.mp N;obtain⟨u,R,rfl⟩:=ig.mp hv;have e:(u==z)=true:=e;rw[eq_of_beq e]at R;exact absurd R J
     show if(if false=true then _ else mw (.str z) ((l.take (k:Int).toNat).map V.str))=true then _ else _
     rw[ge hA,e];exact bX ⟨(g.trans (aj (am.refl _) hp)),_,_,rfl⟩
  ·rintro j m⟨c,D,F,rfl⟩;exact⟨⟨_,am.tseq c b,by rw[b_]⟩,q m c⟩
def tN(T:Txt K mg a):aQ P w K mg base dB 3 a.fT.x a.fT.d ["thing","prime","layers"] (Dh P w K a):=by
 refine T.fT.ok sI λL A outer s H S Q E N h=>?_
 ·obtain⟨z,M,Z,rfl,I,h4,h0,h1,hn,q⟩:=h;refine⟨_,(af (aL (PW.pt (fm (bV (aM K rfl (pc T.eS (fQ T) N (ac (Y 0) O)) (λ_=>rfl))) (dI (aD qG (Y 0) (Y 1) (aF _))))) (ah cx) aC) (ah (aL (aD (nB K rfl) (Y 0) (DM (P:=P) (w:=w) (rT jL ["layer"] [] [3] (ai jF) (cb 3) (Gv (P:=P) (w:=w) (Y 2)) (λcl C s₀ H₀ ex=>⟨(oI jL ["layer"] 3),cF,(aI K rfl (Y 3))⟩))) (by with_unfolding_all rfl)) (ah cx) aC))),?_⟩
  refine U rfl ⟨z,rfl,h0,U rfl (bX ?_)⟩;refine U rfl (U rfl ⟨z,M.p,rfl,rfl,U rfl (iZ (λh=>absurd h (by lia)) (λ_=>?_))⟩);have g:=I.lays;refine U rfl (U rfl ⟨Z.G .ln,U rfl ⟨g,λJ=>?_⟩⟩);refineλD t=>?_;have nd:Z.G .ln≠D:=λz=>by rw[<-z,ag]at t;cases t
  have r:H D=none:=by rw[ao (mu nd)]at t;exact t
  refine wT (n:=M.las.length) (λk c u=>(∀b o,H b=some o->b≠Z.G .ln->u b=some o)/\u (Z.G .ln)=some (dE P w (Z.G .ln) (ju (M.las.map cP.nm) λi=>.ref (Z.G (.lo i))) J)/\u D=some (.lst c)/\c=((M.las.map cP.sl).take k).map V.int) ⟨λb o e n=>by rw[ao (aH e r),ao n];exact e,by rw[ao nd,ag],ag,rfl⟩ (λk c u v h=>⟨h.2.1,by rw[iE,b_];exact v⟩) ?_ ?_
  ·rintro k c R x W v⟨y,f,j,rfl⟩⟨rfl,B⟩;have hl:=fx v;rw[wF,f_,hl]at B;have B:V.ref (Z.G (.lo k))=x:=ir B;subst B;have m:=I.layer hl;refine aq (jB (bD (gG (y _ _ m (λz=>by rw[z,g]at m;cases m)) T.bO T.gt rfl rfl ⟨j,by rw[b_,ji,g8];lia,lf v ⟨λb o e n=>by rw[ao (aH e r)];exact y b o e n,by rw[ao nd];exact f,ag,?_⟩⟩)));rw[cT (l:=M.las.map cP.sl) (x:=(M.las[k]).sl) (by rw[f_,hl];rfl),gg];rfl
  ·rintro c R⟨y,f,j,rfl⟩;refine⟨⟨f,by rw[iE,b_];exact eN _⟩,Z.G .ln,_,J,f,D,_,rfl,.inl (aX.of (by rw[ao (mu nd)];exact j)),rfl,kR _,_,rfl,?_⟩;rw[hH (by rw[b_];exact eN _)];show if(if false=true then _ else mw (.int z) ((M.las.map cP.sl).map V.int))=true then _ else _
   rw[ge hA,wO,iA hn];refine bX (q _ λb o e=>?_)
   by_cases F:b=Z.G .ln
   ·rw[F,g]at e;rw[F,ag];exact e
   ·rw[ao F];exact y b o e F
def tM(T:Txt K mg a):aQ P w K mg base dB 12 a.fS.x a.fS.d ["deed","layers","trials"] (Dc K):=by
 refine T.fS.ok sH λI A outer s H vs Q E f h=>?_
 ·obtain⟨d,J,tr,ar,sh,ru,x,y,r,L,l,M,N,tk,rfl,g,R,S,k,i,j,m,n,h1,h2,h3,h4,o,p,t,u,v,z,B,C,D,F,q⟩:=h;refine⟨_,(af (aR (pc T.gL (oK T) f (ac (dg K (Y 0) ae) (ac (Y 2) O)))) (af (aR (pc T.bR (dz T) f (ac (dg K (Y 0) ae) (ac (Y 1) O)))) (af (aR (pc T.gN (uR T) f (ac (dg K (Y 0) ae) O))) (af (aR (pc T.gK (uN T) f (ac (dg K (Y 0) ae) O))) (ah (aR (pc T.fU (tO T) f (ac (dg K (Y 0) ae) (ac (Y 2) O))))))))),?_⟩
  refine U rfl (rX g rfl (U rfl ⟨x,tr,tk,rfl,R,i,j,λH1 G=>?_⟩));refine U rfl (rX (am.tseq G g) rfl (U rfl ⟨y,J,N,rfl,S,G _ _ k,m,λH2 V=>?_⟩));have c:=G.trans V;refine U rfl (rX (am.tseq c g) rfl ⟨ar,l,rfl,am.tseq c n,h1,h2,h3,h4,λH3 W=>?_⟩);have e:=c.trans W;refine U rfl (rX (am.tseq e g) rfl ⟨r,ru,L,rfl,o.kp (.of e),p,t,u,v,z,λH4 X=>?_⟩);have b:=e.trans X;exact U rfl (rX (am.tseq b g) rfl (U rfl ⟨sh,tr,M,tk,rfl,am.tseq b B,b _ _ i,C,D,F,λZ s5=>q Z (b.trans s5)⟩))
end
inductive Dd|layer(nm:Str)(sl:Int)|trial(x:dq)|share(t:dq)(ns:Ob)|deal(t:dq)(z:Int)(ws:Ob)|hold(l:cP)(z:Int)|pause(t:dq)(b:Bool)|close(t:dq)|bar(g:Str)(t:dq)|visit(g:Str)
def Dd.clo:Dd->Bool|.share t _=>t.clo|.deal t _ _=>t.clo|.pause t _=>t.clo|.close t=>t.clo|_=>false
inductive mf(K:N1)(H:Hp)(M:bU):Dd->List V->Prop|layer{nm:Str}{sl:Int}(h1:Wd nm)(h2:nm∉M.las.map cP.nm)(h3:0<=sl/\sl<=M.p)(h4:sl∉M.las.map cP.sl)(h5:M.las.length<4):mf K H M (.layer nm sl) [.str "layer",.str nm,.int sl]|trial{x:dq}{ar sh ra:Addr}{ws:N7}(h1:Hr M x)(h2:x.nm∉M.trs.map dq.nm)(h3:bd K H ar (x.arms.map V.str))(h4:fi K H x.rule (.ref ra))(h5:x.rule.cnt<=30)(h6:jJ ws x.rule)(h7:∀w∈ws,Wd w)(h8:ws.length<=3)(h9:bd K H sh (x.shuts.map V.str))(ha:∀s∈x.shuts,s∈M.trs.map dq.nm)(hb:x.shuts.Nodup)(hc:x.pau=false)(hd:x.clo=false)(he:x.bar=[])(hf:M.trs.length<10):mf K H M (.trial x) [.str "trial",.str x.nm,.str x.home,.ref ar,.ref ra,.ref sh]|share{t:dq}{ns:Ob}{nv:Addr}(h1:t∈M.trs)(h2:bd K H nv (ns.map V.int))(h3:ns.length=t.arms.length)(h4:∀x∈ns,0<=x):mf K H M (.share t ns) [.str "share",.str t.nm,.ref nv]|deal{t:dq}{z:Int}{ws:Ob}{wv:Addr}(h1:t∈M.trs)(hz:0<=z/\z<=1000)(h2:bd K H wv (ws.map V.int))(h3:ws.length=t.arms.length)(h4:∀x∈ws,1<=x/\x<=dw):mf K H M (.deal t z ws) [.str "deal",.str t.nm,.int z,.ref wv]|hold{l:cP}{z:Int}(h1:l∈M.las)(h2:0<=z):mf K H M (.hold l z) [.str "hold",.str l.nm,.int z]|pause{t:dq}(h1:t∈M.trs):mf K H M (.pause t true) [.str "pause",.str t.nm]|go{t:dq}(h1:t∈M.trs):mf K H M (.pause t false) [.str "go",.str t.nm]|close{t:dq}(h1:t∈M.trs):mf K H M (.close t) [.str "close",.str t.nm]|bar{g:Str}{t:dq}(h1:Be g)(h2:t∈M.trs):mf K H M (.bar g t) [.str "bar",.str g,.str t.nm]|visit{g:Str}{mv:V}{ms:List (Str×Int)}(h1:Be g)(h2:rH K H ms mv)(h3:∀m∈ms,Wd m.1/\-dw<=m.2/\m.2<=dw)(h4:(ms.map Prod.fst).Nodup)(h5:ms.length<=8):mf K H M (.visit g) [.str "visit",.str g,mv]
theorem mf.kp(e:Kp H H')(h:mf K H M d c):mf K H' M d c:=by cases h with|layer h1 h2 h3 h4 h5=>exact .layer h1 h2 h3 h4 h5|trial h1 h2 h3 h4 h5 h6 h7 h8 h9 b f hc hd g i=>exact .trial h1 h2 (e.tq h3) (h4.kp e) h5 h6 h7 h8 (e.tq h9) b f hc hd g i|share h1 h2 h3 h4=>exact .share h1 (e.tq h2) h3 h4|deal h1 hz h2 h3 h4=>exact .deal h1 hz (e.tq h2) h3 h4|hold h1 h2=>exact .hold h1 h2|pause h1=>exact .pause h1|go h1=>exact .go h1|close h1=>exact .close h1|bar h1 h2=>exact .bar h1 h2|visit h1 h2 h3 h4 h5=>exact .visit h1 (h2.kp e) h3 h4 h5
inductive xc(K:N1)(H:Hp)(many:Nat):Str->List V->Prop|share{p:Addr}{l:Ob}(h1:bd K H p (l.map V.int))(h2:∀i∈l,0<=i)(h3:l.length=many):xc K H many "share" [.ref p]|deal{z:Int}{p:Addr}{l:Ob}(hz:0<=z/\z<=1000)(h1:bd K H p (l.map V.int))(h2:∀i∈l,1<=i/\i<=dw)(h3:l.length=many):xc K H many "deal" [.int z,.ref p]|other{k:Str}(h1:k≠"share")(h2:k≠"deal"):xc K H many k []
inductive IA(P:N6)(w:World)(K:N1)(a:ic)(vs:List V)(H:Hp)(Q:VK)(E:XK):Prop|mk(d:Addr)(M:bU)(Z:ZS)(c:Nat)(k:Str)(t:dq)(xs:List V)(_:vs=[.ref d,.ref (Z.G .tn)])(_:bd K H d (.str k::.str t.nm::xs))(_:bF P w K a H M Z)(_:ma M c)(_:t∈M.trs)(_:xc K H t.arms.length k xs)(_:(t.clo=false->∀H',am H H'->Q .non H'))(_:(t.clo=true->∀H',am H H'->E (.ref a.uy) none H'))
section
def uO(T:Txt K mg a):aQ P w K mg base (qy P w) 5 a.eT.x a.eT.d ["deed","trials"] (IA P w K a):=by
 refine T.eT.okE jD λD A outer s H J Q E n h=>?_
 ·obtain⟨d,M,Z,c,k,t,L,rfl,o,v,y,z,F,q,r⟩:=h;refine⟨_,(af (aR (pc T.bR (dz T) n (ac (dg K (Y 0) ae) (ac (Y 1) O)))) (af (bj 2 jD.nd (dG (cz n) (Y 1) (dg K (Y 0) ae) (λ_ _=>rfl))) (af (bj 3 jD.nd (au (aG K rfl) (by rfl) T.bo L2.aK (ac (aI K rfl (Y 2)) O))) (af (aL (aD aT (dg K (Y 0) ae) aE (aF _)) (ah (aR (pc T.fg (rc T) n (ac (dg K (Y 0) ae) (ac (Y 3) O))))) (ah (aL (aD aT (dg K (Y 0) ae) aE (aF _)) (ah (aR (pc T.eK (pM T) n (ac (dg K (Y 0) ae) (ac (dg K (Y 0) ae) (ac (Y 3) O)))))) aC))) (ah (aL (aM K rfl (aI K rfl (Y 2)) (λ_=>rfl)) (ah (tG T.vM rfl T.yy rfl tF (ac aE O))) aC)))))),?_⟩
  obtain⟨j,hj⟩:=hQ.mp z;have l:=y.tr t z;have B:=y.tget (Z:=Z) hj;have I:=l.a4;refine U rfl (rX o (ak (k:=1) rfl) (U rfl ⟨t.nm,Z.G .tn,_,rfl,l.wd,v.tris,by rw[B];rfl,λC e=>?_⟩));have g:=v.same e;have p:=g.trial hj;obtain⟨u,-,-⟩:=g.trs j t hj;refine U rfl (U rfl (rX (am.tseq e o) (ak (k:=1) rfl) (rG (.ref (Z.G (.tr j))) (by rw[<-B];exact dR.k (k:=.inr t.nm) g.tris) (aq ?_))));refine gG p T.bf T.fF rfl rfl ⟨_,t.arms.length,rfl,.inr ⟨_,u,by simp⟩,aq ?_⟩;refine U rfl (rX (am.tseq e o) (ak (k:=0) rfl) ⟨rfl,U rfl ?_⟩);have f:=am.tseq e o;cases F with
 |share h1 h2 h3=>
   refine b7 ?_;refine U rfl (rX f (ak (k:=2) rfl) (U rfl ⟨_,_,by rw[h3];rfl,am.tseq e h1,h2,by lia,λm i=>?_⟩));refine gG (i _ _ p) T.bf T.eB rfl rfl ⟨t.clo,rfl,?_⟩;cases b:t.clo
   ·exact bX (q b m (e.trans i))
   ·exact bD ⟨ls rfl,r b m (e.trans i)⟩|deal hz h1 h2 h3=>
   refine wn ?_;refine U rfl (rX f (ak (k:=0) rfl) ⟨rfl,U rfl (b7 ?_)⟩);refine U rfl (rX f (ak (k:=2) rfl) (U rfl (rX f (ak (k:=3) rfl) (U rfl ⟨_,_,_,by rw[h3];rfl,hz,am.tseq e h1,h2,by lia,λm i=>?_⟩))));refine gG (i _ _ p) T.bf T.eB rfl rfl ⟨t.clo,rfl,?_⟩;cases b:t.clo
   ·exact bX (q b m (e.trans i))
   ·exact bD ⟨ls rfl,r b m (e.trans i)⟩|other h1 h2=>
   refine rK h1 ?_;refine U rfl (rX f (ak (k:=0) rfl) ⟨rfl,U rfl (rK h2 ?_)⟩);refine gG p T.bf T.eB rfl rfl ⟨t.clo,rfl,?_⟩;cases b:t.clo
   ·exact bX (q b C e)
   ·exact bD ⟨ls rfl,r b C e⟩
end
inductive Gf(P:N6)(w:World)(K:N1)(a:ic)(vs:List V)(H:Hp)(Q:VK)(E:XK):Prop|mk(dv:Addr)(M:bU)(Z:ZS)(c:Nat)(d:Dd)(xs:List V)(_:vs=[.ref dv,.int M.p,.ref (Z.G .ln),.ref (Z.G .tn)])(_:bd K H dv xs)(_:bF P w K a H M Z)(_:ma M c)(_:mf K H M d xs)(_:(d.clo=false->∀H',am H H'->Q .non H'))(_:(d.clo=true->∀H',am H H'->E (.ref a.uy) none H'))
section
def uQ(T:Txt K mg a)(W:w.params=a.pm):aQ P w K mg base (qy P w) 13 a.eV.x a.eV.d ["deed","prime","layers","trials"] (Gf P w K a):=by
 refine T.eV.okE mE λX A outer s H vs Q E p h=>?_
 ·obtain⟨n,M,Z,c,d,xs,rfl,e,r,u,hD,q,C⟩:=h;refine⟨_,(af (aR (pc T.gM (uP T W) p (ac (Y 0) O))) (af (bj 4 mE.nd (dg K (Y 0) ae)) (ah (aL (aD aT (Y 4) aE (aF _)) (af (aR (pc T.gL (oK T) p (ac (dg K (Y 0) ae) (ac (Y 2) O)))) (ah (aR (pc T.fT (tN T) p (ac (dg K (Y 0) ae) (ac (Y 1) (ac (Y 2) O))))))) (ah (aL (aD aT (Y 4) aE (aF _)) (ah (aR (pc T.fS (tM T) p (ac (Y 0) (ac (Y 2) (ac (Y 3) O)))))) (ah (aL (aD aT (Y 4) aE (aF _)) (af (aR (pc T.bR (dz T) p (ac (dg K (Y 0) ae) (ac (Y 2) O)))) (ah (aR (pc T.fY (tS T) p (ac (dg K (Y 0) ae) O))))) (ah (aL (aD aT (Y 4) aE (aF _)) (af (aR (pc T.eU (lP T) p (ac (dg K (Y 0) ae) O))) (ah (aR (pc T.bR (dz T) p (ac (dg K (Y 0) ae) (ac (Y 3) O)))))) (ah (aL (aD aT (Y 4) aE (aF _)) (af (aR (pc T.eU (lP T) p (ac (dg K (Y 0) ae) O))) (ah (aR (pc T.fW (tQ T) p (ac (dg K (Y 0) ae) O))))) (ah (aR (bB ((uO T).mono (by decide)) p rfl T.eT.m T.eT.f.kp T.eT.b .nil de (ac (Y 0) (ac (Y 3) O))))))))))))))))),?_⟩
  have v:∀t∈M.trs,(bw (ju (M.trs.map dq.nm) λi=>V.ref (Z.G (.tr i))) (.inr t.nm)).isSome=true:=λt ht=>by obtain⟨j,hj⟩:=hQ.mp ht;rw[u.tget (Z:=Z) hj];rfl
  have B:∀l∈M.las,(bw (ju (M.las.map cP.nm) λi=>V.ref (Z.G (.lo i))) (.inr l.nm)).isSome=true:=λl hl=>by obtain⟨j,hj⟩:=hQ.mp hl;rw[u.lget (Z:=Z) hj];rfl
  cases hD with|@layer nm sl h1 h2 h3 h4 h5=>refine U rfl ⟨n,_,_,rfl,e,T.pV,?_⟩;refine U rfl (rX e (ak (k:=0) rfl) (aq ?_));refine U rfl ⟨rfl,U rfl (b7 ?_)⟩;refine U rfl (rX e (ak (k:=1) rfl) (U rfl ⟨_,Z.G .ln,_,rfl,h1,r.lays,kh h2,λL o=>?_⟩));exact U rfl (rX (am.tseq o e) (ak (k:=2) rfl) (U rfl (U rfl ⟨sl,M,Z,rfl,r.same o,by exact rm h5,h3.1,h3.2,h4,λD F=>q rfl D (o.trans F)⟩)))|@trial x ar sh ra N h1 h2 h3 h4 h5 h6 h7 h8 h9 ha hb hc hd he hf=>refine U rfl ⟨n,_,_,rfl,e,T.pS,?_⟩;refine U rfl (rX e (ak (k:=0) rfl) (aq ?_));refine U rfl ⟨rfl,U rfl (wn ?_)⟩;refine U rfl ⟨rfl,U rfl (b7 ?_)⟩;obtain⟨R,I,J⟩:=ig.mp h1.hm;refine U rfl (U rfl (U rfl ⟨n,Z.G .ln,Z.G .tn,ar,sh,.ref ra,x.nm,x.home,x.rule,N,x.arms,x.shuts,_,_,rfl,e,h1.wd,by rw[<-J];exact(u.la R I).wd,r.lays,r.tris,kh h2,by rw[<-J];exact B R I,h3,h1.aw,h1.nd,h1.a1,h1.a4,h4,h1.hg,h5,h6,h7,h8,h9,λy hy=>?_,hb,h1.s8,q rfl⟩));obtain⟨z,hz,S⟩:=ig.mp (ha y hy);exact⟨by rw[<-S];exact(u.tr z hz).wd,by rw[<-S];exact v z hz⟩|@hold l z h1 h2=>refine U rfl ⟨n,_,_,rfl,e,T.rq,?_⟩;refine U rfl (rX e (ak (k:=0) rfl) (aq ?_));(iterate 2 refine U rfl ⟨rfl,U rfl (wn ?_)⟩);refine U rfl ⟨rfl,U rfl (b7 ?_)⟩;refine U rfl (rX e (ak (k:=1) rfl) (U rfl ⟨_,Z.G .ln,_,rfl,(u.la l h1).wd,r.lays,B l h1,λL o=>?_⟩));exact U rfl ⟨n,_,2,_,rfl,rfl,am.tseq o e,ak (k:=2) rfl,_,rfl,h2,q rfl L o⟩|@bar g t h1 h2=>refine U rfl ⟨n,_,_,rfl,e,T.tX,?_⟩;refine U rfl (rX e (ak (k:=0) rfl) (aq ?_));(iterate 3 refine U rfl ⟨rfl,U rfl (wn ?_)⟩);refine U rfl ⟨rfl,U rfl (b7 ?_)⟩;refine U rfl (rX e (ak (k:=1) rfl) ⟨g,rfl,h1,λL o=>?_⟩);exact U rfl (rX (am.tseq o e) (ak (k:=2) rfl) (U rfl ⟨t.nm,Z.G .tn,_,rfl,(u.tr t h2).wd,o _ _ r.tris,v t h2,λD F=>q rfl D (o.trans F)⟩))|@visit g mv ms h1 h2 h3 h4 h5=>refine U rfl ⟨n,_,_,rfl,e,T.pR,?_⟩;refine U rfl (rX e (ak (k:=0) rfl) (aq ?_));(iterate 4 refine U rfl ⟨rfl,U rfl (wn ?_)⟩);refine U rfl ⟨rfl,U rfl (b7 ?_)⟩;refine U rfl (rX e (ak (k:=1) rfl) ⟨g,rfl,h1,λL o=>?_⟩);exact U rfl (rX (am.tseq o e) (ak (k:=2) rfl) ⟨mv,ms,rfl,h2.kp (.of o),h3,h4,h5,λD F=>q rfl D (o.trans F)⟩)|@share t ns nv h1 h2 h3 h4=>refine U rfl ⟨n,_,_,rfl,e,T.pT,?_⟩;refine U rfl (rX e (ak (k:=0) rfl) (aq ?_));(iterate 5 refine U rfl ⟨rfl,U rfl (wn ?_)⟩);exact U rfl (U rfl ⟨n,M,Z,c,_,t,_,rfl,e,r,u,h1,.share h2 h4 h3,q,C⟩)|@deal t z N wv h1 hz h2 h3 h4=>refine U rfl ⟨n,_,_,rfl,e,T.rB,?_⟩;refine U rfl (rX e (ak (k:=0) rfl) (aq ?_));(iterate 5 refine U rfl ⟨rfl,U rfl (wn ?_)⟩);exact U rfl (U rfl ⟨n,M,Z,c,_,t,_,rfl,e,r,u,h1,.deal hz h2 h4 h3,q,C⟩)|@pause t h1=>refine U rfl ⟨n,_,_,rfl,e,T.pU,?_⟩;refine U rfl (rX e (ak (k:=0) rfl) (aq ?_));(iterate 5 refine U rfl ⟨rfl,U rfl (wn ?_)⟩);exact U rfl (U rfl ⟨n,M,Z,c,_,t,_,rfl,e,r,u,h1,.other (by decide+kernel) (by decide+kernel),q,C⟩)|@go t h1=>refine U rfl ⟨n,_,_,rfl,e,T.uX,?_⟩;refine U rfl (rX e (ak (k:=0) rfl) (aq ?_));(iterate 5 refine U rfl ⟨rfl,U rfl (wn ?_)⟩);exact U rfl (U rfl ⟨n,M,Z,c,_,t,_,rfl,e,r,u,h1,.other (by decide+kernel) (by decide+kernel),q,C⟩)|@close t h1=>refine U rfl ⟨n,_,_,rfl,e,T.pW,?_⟩;refine U rfl (rX e (ak (k:=0) rfl) (aq ?_));(iterate 5 refine U rfl ⟨rfl,U rfl (wn ?_)⟩);exact U rfl (U rfl ⟨n,M,Z,c,_,t,_,rfl,e,r,u,h1,.other (by decide+kernel) (by decide+kernel),q,C⟩)
end
def E6(c:Ob)(n:Nat):∀i∈deal c n,0<=i:=λi hi=>by obtain⟨k,b⟩:=hQ.mp hi;have:=(wS c n k).1;unfold gd at this;rw[t2,b]at this;exact this
inductive jA(M:bU):Dd->bU->Prop|layer{nm:Str}{sl:Int}:jA M (.layer nm sl) (xa M nm sl)|trial{x:dq}:jA M (.trial x) (w9 M x)|share{t:dq}{ns:Ob}{i:Nat}{l:cP}(hl:M.las[i]?=some l)(hh:l.nm=t.home)(hn:jv l.S (qz t.nm t.arms ns)<=((o9 M.p l.S.oc).length:Int)):jA M (.share t ns) (nh M i l t ns)|deal{t:dq}{z:Int}{ws:Ob}{i:Nat}{l:cP}(hl:M.las[i]?=some l)(hh:l.nm=t.home)(hn:jv l.S (qz t.nm t.arms (deal ws z.toNat))<=((o9 M.p l.S.oc).length:Int)):jA M (.deal t z ws) (nh M i l t (deal ws z.toNat))|hold{l:cP}{z:Int}{i:Nat}(hl:M.las[i]?=some l):jA M (.hold l z) (EK M i l z)|pause{t:dq}{b:Bool}{j:Nat}(hj:M.trs[j]?=some t):jA M (.pause t b) (M.setT j {t with pau:=b})|close{t:dq}{i j:Nat}{l:cP}(hj:M.trs[j]?=some t)(hl:M.las[i]?=some l)(hh:l.nm=t.home):jA M (.close t) (nh (M.setT j {t with clo:=true}) i l {t with clo:=true} (nQ t))|bar{g:Str}{t:dq}{i j:Nat}{l:cP}(hj:M.trs[j]?=some t)(hl:M.las[i]?=some l)(hh:l.nm=t.home):jA M (.bar g t) (As M i j l t g)|visit{g:Str}{M':bU}(h:kB g M M'):jA M (.visit g) M'
def Dd.adds:Dd->Bool|.layer _ _=>true|.trial _=>true|_=>false
def Dd.clo_adds{d:Dd}(h:d.clo=true):d.adds=false:=by cases d<;>first|rfl|cases h
inductive IJ(P:N6)(w:World)(K:N1)(a:ic)(vs:List V)(H:Hp)(Q:VK)(E:XK):Prop|mk(M:bU)(Z:ZS)(c:Nat)(dv:Addr)(d:Dd)(xs:List V)(_:vs=[.ref (Z.G .hh),.ref dv])(_:cE P w K a H M Z c)(_:c<=63)(_:bd K H dv xs)(_:mf K H M d xs)(_:(∀(r:Addr)(us:List V)(M':bU)(Z':ZS)(H':Hp),jA M d M'->gz H M Z H' M' Z'->cE P w K a H' M' Z' (c+1)->H r=none->H' r=some (.lst us)->Z'.ds=Z.ds->Q (.ref r) H'))(_:(d.adds=false->∀H',am H H'->E (.ref a.nM) none H'))
section
def uW(T:Txt K mg a):aQ P w K mg base (qy P w) 11 a.fP.x a.fP.d ["self","deed"] (IJ P w K a):=by
 refine T.fP.okE mF λan A outer s H vs Q E p h=>?_
 ·obtain⟨M,Z,c,dv,d,xs,rfl,y,hc,u,hD,q,R⟩:=h;refine⟨_,(af (bj 2 mF.nd (dg K (Y 1) ae)) (af (aL (aD aT (Y 2) aE (aF _)) (ah (az (bh (Y 0) T.aB T.c8.m ((oQ (P:=P) (w:=w) T).mono (by decide)) p T.c8.b .nil bq (ac (dg K (Y 1) ae) (ac (dg K (Y 1) ae) O))))) aC) (af (aL (aD aT (Y 2) aE (aF _)) (ah (az (bh (Y 0) T.aB T.c7.m ((oP (P:=P) (w:=w) T).mono (by decide)) p T.c7.b .nil bq (ac (dg K (Y 1) ae) (ac (rP T.D9 ((re (P:=P) (w:=w) T).mono (by decide)) p rfl T.GQ T.d7.b .nil bq (ac (dg K (Y 1) ae) (ac (dg K (Y 1) ae) (ac (dg K (Y 1) ae) (ac (dg K (Y 1) ae) O))))) O))))) aC) (af (aL (aD aT (Y 2) aE (aF _)) (ah (az (bh (Y 0) T.aB T.bJ.m ((gq (P:=P) (w:=w) T).mono (by decide)) p T.bJ.b .nil de (ac (dg K (Y 1) ae) (ac (dg K (Y 1) ae) O))))) aC) (af (aL (aD aT (Y 2) aE (aF _)) (ah (az (bh (Y 0) T.aB T.bJ.m ((gq (P:=P) (w:=w) T).mono (by decide)) p T.bJ.b .nil de (ac (dg K (Y 1) ae) (ac (pc T.vP (DS T) p (ac (dg K (Y 1) ae) (ac (dg K (Y 1) ae) O))) O))))) aC) (af (aL (aD aT (Y 2) aE (aF _)) (ah (az (bh (Y 0) T.aB T.dF.m ((pO (P:=P) (w:=w) T).mono (by decide)) p T.dF.b .nil de (ac (dg K (Y 1) ae) (ac (dg K (Y 1) ae) O))))) aC) (af (aL (aD aT (Y 2) aE (aF _)) (ah (az (bh (Y 0) T.aB T.ck.m ((jt (P:=P) (w:=w) T).mono (by decide)) p T.ck.b .nil bq (ac (dg K (Y 1) ae) (ac dS O))))) aC) (af (aL (aD aT (Y 2) aE (aF _)) (ah (az (bh (Y 0) T.aB T.ck.m ((jt (P:=P) (w:=w) T).mono (by decide)) p T.ck.b .nil bq (ac (dg K (Y 1) ae) (ac dS O))))) aC) (af (aL (aD aT (Y 2) aE (aF _)) (ah (az (bh (Y 0) T.aB T.c9.m ((oR (P:=P) (w:=w) T).mono (by decide)) p T.c9.b .nil de (ac (dg K (Y 1) ae) O)))) aC) (af (aL (aD aT (Y 2) aE (aF _)) (ah (az (bh (Y 0) T.aB T.et.m ((rj (P:=P) (w:=w) T).mono (by decide)) p T.et.b .nil bq (ac (dg K (Y 1) ae) (ac (dg K (Y 1) ae) O))))) aC) (ah (az (bh (Y 0) T.aB T.c6.m ((oO (P:=P) (w:=w) T).mono (by decide)) p T.c6.b .nil bq (ac (dg K (Y 1) ae) (ac (dg K (Y 1) ae) O))))))))))))))),?_⟩
  have C:=y.g.house;cases hD with|@layer nm sl h1 h2 h3 h4 h5=>refine U rfl (rX u (ak (k:=0) rfl) (aq ?_));refine U rfl ⟨rfl,U rfl (b7 ?_)⟩;exact lj C rfl rfl (U rfl (rX u (ak (k:=1) rfl) (U rfl (rX u (ak (k:=2) rfl) ⟨M,Z,c,nm,sl,rfl,y,h1,h2,h3,h5,λr B H' st f p n v=>q r [] _ B H' .layer st (f.mono (ov c)) p n v⟩))))|@trial x ar sh ra G h1 h2 h3 h4 h5 h6 h7 h8 h9 ha hb S hd he hf=>
   refine U rfl (rX u (ak (k:=0) rfl) (aq ?_));refine U rfl ⟨rfl,U rfl (wn ?_)⟩;refine U rfl ⟨rfl,U rfl (b7 ?_)⟩;refine lj C rfl rfl (U rfl (rX u (ak (k:=1) rfl) ?_));refine U rfl (rX u (ak (k:=2) rfl) (U rfl (rX u (ak (k:=3) rfl) (U rfl (rX u (ak (k:=4) rfl) (U rfl (rX u (ak (k:=5) rfl) (λt ty I V ap=>?_))))))));have W:am H (aJ (aJ H ty (.own t)) t (.ins a.fH ty [])):=λb o e=>by rw[ao (aH e I),ao (aH e V)];exact e
   have J:aJ (aJ H ty (.own t)) t (.ins a.fH ty []) t=some (.ins a.fH ty []):=ag;generalize aJ (aJ H ty (.own t)) t (.ins a.fH ty [])=H2 at W J⊢;refine⟨t,ty,ar,ra,sh,x.home,rfl,J,λba H3 X f3 aa ad=>⟨rfl,?_⟩⟩;have s3:am H H3:=λb o e=>f3 b o (W b o e) (aH e I);exact⟨M,Z,c,H,t,ba,ty,ar,sh,.ref ra,x,rfl,y,s3,I,W.free X,ad,aa,h3,h4,h9,S,hd,he,h1,h2,hf,λr B H' st f p n v=>q r [] _ B H' .trial st (f.mono (ov c)) p n v⟩|@share t ns nv h1 h2 h3 h4=>obtain⟨j,hj⟩:=hQ.mp h1;obtain⟨i,l,hl,hh⟩:=y.ok.home h1;refine U rfl (rX u (ak (k:=0) rfl) (aq ?_));(iterate 2 refine U rfl ⟨rfl,U rfl (wn ?_)⟩);refine U rfl ⟨rfl,U rfl (b7 ?_)⟩;exact lj C rfl rfl (U rfl (rX u (ak (k:=1) rfl) (U rfl (rX u (ak (k:=2) rfl) ⟨M,Z,c,i,j,l,t,nv,ns,rfl,y,hc,hj,hl,hh,.inr h2,h3,h4,λD r F B H' st f p n v=>q r F _ B H' (.share hl hh D) st f p n v,λ_=>R rfl⟩))))|@deal t z G wv h1 hz h2 h3 h4=>
   obtain⟨j,hj⟩:=hQ.mp h1;obtain⟨i,l,hl,hh⟩:=y.ok.home h1;have L:=y.ok.tr t h1;have a1:=L.a1;have a4:=L.a4;refine U rfl (rX u (ak (k:=0) rfl) (aq ?_));(iterate 3 refine U rfl ⟨rfl,U rfl (wn ?_)⟩);refine U rfl ⟨rfl,U rfl (b7 ?_)⟩;refine lj C rfl rfl (U rfl (rX u (ak (k:=1) rfl) (U rfl (rX u (ak (k:=2) rfl) (U rfl (rX u (ak (k:=3) rfl) ⟨z.toNat,wv,G,by rw[show((z.toNat:Nat):Int)=z by lia];rfl,by lia,h2,by lia,by lia,λtv H1 N I=>?_⟩))))));have al:(deal G z.toNat).length=t.arms.length:=by rw[lY];exact h3
   exact⟨M,Z,c,i,j,l,t,tv,deal G z.toNat,rfl,y.same N,hc,hj,hl,hh,.inr (bd.of I),al,E6 G z.toNat,λD r F B H' st f p n v=>q r F _ B H' (.deal hl hh D) ((gz.of N).trans st) f (N.free p) n v,λ_ H' s'=>R rfl H' (N.trans s')⟩|@hold l z h1 h2=>obtain⟨i,hl⟩:=hQ.mp h1;refine U rfl (rX u (ak (k:=0) rfl) (aq ?_));(iterate 4 refine U rfl ⟨rfl,U rfl (wn ?_)⟩);refine U rfl ⟨rfl,U rfl (b7 ?_)⟩;exact lj C rfl rfl (U rfl (rX u (ak (k:=1) rfl) (U rfl (rX u (ak (k:=2) rfl) ⟨M,Z,c,i,l,z,rfl,y,hc,hl,h2,λD r B H' st f p n v=>q r [] _ B H' (.hold hl) st f p n v,λ_=>R rfl⟩))))|@pause t h1=>obtain⟨j,hj⟩:=hQ.mp h1;refine U rfl (rX u (ak (k:=0) rfl) (aq ?_));(iterate 5 refine U rfl ⟨rfl,U rfl (wn ?_)⟩);refine U rfl ⟨rfl,U rfl (b7 ?_)⟩;exact lj C rfl rfl (U rfl (rX u (ak (k:=1) rfl) ⟨M,Z,c,j,t,true,rfl,y,hj,λr H' st f p n=>q r [] _ Z H' (.pause hj) st (f.mono (ov c)) p n rfl⟩))|@go t h1=>obtain⟨j,hj⟩:=hQ.mp h1;refine U rfl (rX u (ak (k:=0) rfl) (aq ?_));(iterate 6 refine U rfl ⟨rfl,U rfl (wn ?_)⟩);refine U rfl ⟨rfl,U rfl (b7 ?_)⟩;exact lj C rfl rfl (U rfl (rX u (ak (k:=1) rfl) ⟨M,Z,c,j,t,false,rfl,y,hj,λr H' st f p n=>q r [] _ Z H' (.pause hj) st (f.mono (ov c)) p n rfl⟩))|@close t h1=>obtain⟨j,hj⟩:=hQ.mp h1;obtain⟨i,l,hl,hh⟩:=y.ok.home h1;refine U rfl (rX u (ak (k:=0) rfl) (aq ?_));(iterate 7 refine U rfl ⟨rfl,U rfl (wn ?_)⟩);refine U rfl ⟨rfl,U rfl (b7 ?_)⟩;exact lj C rfl rfl (U rfl (rX u (ak (k:=1) rfl) ⟨M,Z,c,i,j,l,t,rfl,y,hc,hj,hl,hh,λr F B H' st f p n v=>q r F _ B H' (.close hj hl hh) st f p n v⟩))|@bar g t h1 h2=>obtain⟨j,hj⟩:=hQ.mp h2;obtain⟨i,l,hl,hh⟩:=y.ok.home h2;refine U rfl (rX u (ak (k:=0) rfl) (aq ?_));(iterate 8 refine U rfl ⟨rfl,U rfl (wn ?_)⟩);refine U rfl ⟨rfl,U rfl (b7 ?_)⟩;exact lj C rfl rfl (U rfl (rX u (ak (k:=1) rfl) (U rfl (rX u (ak (k:=2) rfl) ⟨M,Z,c,i,j,l,t,g,rfl,y,hc,hj,hl,hh,h1,λr F B H' st f p n v=>q r F _ B H' (.bar hj hl hh) st f p n v⟩))))|@visit g mv ms h1 h2 h3 h4 h5=>refine U rfl (rX u (ak (k:=0) rfl) (aq ?_));(iterate 9 refine U rfl ⟨rfl,U rfl (wn ?_)⟩);exact lj C rfl rfl (U rfl (rX u (ak (k:=1) rfl) (U rfl (rX u (ak (k:=2) rfl) ⟨M,Z,c,g,mv,ms,rfl,y,hc,h1,h2,h5,λr F M' B H' vt st f p n v=>q r F M' B H' (.visit vt) st f p n v⟩))))
end
inductive KH(P:N6)(w:World)(K:N1)(a:ic)(vs:List V)(H:Hp)(Q:VK)(E:XK):Prop|mk(M:bU)(Z:ZS)(c:Nat)(dv:Addr)(d:Dd)(xs:List V)(_:vs=[.ref (Z.G .hh),.ref dv])(_:cE P w K a H M Z c)(_:c<=63)(_:bd K H dv xs)(_:mf K H M d xs)(_:(d.clo=false->∀(r:Addr)(us:List V)(M':bU)(Z':ZS)(H':Hp),jA M d M'->gz H M Z H' M' Z'->cE P w K a H' M' Z' (c+1)->H r=none->H' r=some (.lst us)->Q (.ref r) H'))(_:(d.adds=false->∀H',am H H'->E (.ref a.nM) none H'))(_:(d.adds=false->∀H',am H H'->E (.ref a.uy) none H'))
section
def yk(T:Txt K mg a)(S:w.params=a.pm):aQ P w K mg base (qy P w) 14 a.i8.x a.i8.d ["self","deed"] (KH P w K a):=by
 refine T.i8.okE qB λV A outer s H vs Q E l h=>?_
 ·obtain⟨M,Z,c,n,d,J,rfl,o,hc,L,N,q,W,X⟩:=h;refine⟨_,(af (aR (bB ((uQ T S).mono (by decide)) l rfl T.eV.m T.eV.f.kp T.eV.b .nil de (ac (Y 1) (ac (aI K rfl (Y 0)) (ac (aI K rfl (Y 0)) (ac (aI K rfl (Y 0)) O)))))) (af (bj 2 qB.nd (bh (Y 0) T.aB T.fP.m ((uW (P:=P) (w:=w) T).mono (by decide)) l T.fP.b .nil de (ac (Y 1) O))) (af (aR (ii K rfl PySem.F.plainAttrs_list PySem.F.slot_list_append PySem.F.type_list_append eI (aI K rfl (Y 0)) (ac (Y 1) O))) (ah (az (Y 2)))))),?_⟩
  have v:=o.g.house;refine U rfl (gG v T.aB T.bW rfl rfl (gG v T.aB T.aP rfl rfl (gG v T.aB T.aO rfl rfl ?_)));refine⟨n,M,Z,c,d,J,rfl,L,o.g,o.ok,N,λk H1 i=>?_,λk=>X (Dd.clo_adds k)⟩;refine lj (i _ _ v) rfl rfl (U rfl ⟨M,Z,c,n,d,J,rfl,o.same i,hc,am.tseq i L,N.kp (.of i),λr us y j R nx st e l B p=>?_,λha H' s'=>W ha H' (i.trans s')⟩);have t:=e.g.house;rw[st.hh]at t;have u:=e.g.dees;have C:=o.ds;refine aq (gG t T.aB T.lT rfl rfl ⟨.inl ⟨rfl,_,aX.of u⟩,U rfl (rA u (by rw[p,g8];lia) ?_)⟩);have D:=e.g.deed (.ref n);have I:gz R y j (aJ R (j.G .dl) (.lst (j.ds++[.ref n]))) y {j with ds:=j.ds++[.ref n]}:=gz.put (r:=.dl) trivial rfl rfl rfl rfl λx hx=>.inl hx;refine U rfl (q k r us y {j with ds:=j.ds++[.ref n]} _ nx (((gz.of i).trans st).trans I) ⟨D,e.ok,e.tk,e.ow,by show(j.ds++[_]).length<=c+1;rw[ga,p];exact tA C⟩ (i.free l) ?_);rw[ao λz=>?_]
  ·exact B
  ·rw[z,st.dd,i _ _ o.g.dees]at l;cases l
end
def HC:List Str:=["ann","ann7","7ann","an","nan","ana","anan","b","bob12","bob1","21bob","annbob"]
def CT:List Str:=["","ann7","0","guestofthishouse99"]
def Dv(k:Nat):Nat:=if k<26 then 97+k else 22+k
def L7(z:Str)(i:Int)(c:Nat):Str:=Txt.slice z none (some i)++(⟨#[c]⟩:Str)++Txt.slice z (some i) none
def LK(x:Str):Bool:=decide (1<=x.length)&&decide (x.length<=24)&&x.cps.toList.all λc=>decide (c∈jI.cps.toList)
def HN(h:LK x=true):Be x:=by unfold LK at h;rw[k4,k4]at h;exact⟨i_ h.1.1,i_ h.1.2,λc hc=>i_ (List.all_eq_true.mp h.2 c hc)⟩
def Ds:∀z∈HC,LK z=true:=by decide+kernel
def GL:∀z∈CT,∀i∈List.range 19,∀c∈List.range 36,LK (L7 z (i:Int) (Dv c))=true:=by decide+kernel
def Br:∀z∈CT,z.length<=18:=by decide+kernel
def IQ:∀c∈List.range 36,um ("abcdefghijklmnopqrstuvwxyz0123456789":Str).cps.toList (c:Int)=some (Dv c):=by decide+kernel
def i3{zs:N7}{i:Int}(h0:0<=i)(h1:i<(zs.length:Int)):∃z∈zs,um (zs.map V.str) i=some (V.str z):=by obtain⟨v,b,hm⟩:=zb (xs:=zs.map V.str) h0 (by rw[b_];exact h1);obtain⟨z,hz,rfl⟩:=ig.mp hm;exact⟨z,hz,b⟩
inductive C9(vs:List V)(H:Hp)(Q:VK)(_E:XK):Prop|mk(k N:Int)(_:vs=[.int k,.int N])(_:∀(g:Str)H',am H H'->Be g->Q (.str g) H')
def qK(h:N c H):(lq.mk N R B C).nx c H:=h
def qa{c:TT}{t u:TS}{D:lq}{d:St}(h1:u D d H)(h2:∀N:St->Hp->Prop,N d H->FK c t xv {D with nx:=N} d H):CL (FK c t xv) u D d H:=h2 (u D) h1
def LH:List Str:=["age","size","old"]
inductive FU(K:N1)(h:Nat)(vs:List V)(H:Hp)(Q:VK)(_E:XK):Prop|mk(n i:Int)(_:vs=[.int n,.int i])(_:1<=i)(_:i<=(h:Int))(_:∀(r:Ru)(rv:V)H',am H H'->fi K H' r rv->jJ LH r->r.hgt<=h->r.cnt<2^h->Q rv H')
section
def BT(T:Txt K mg a):aQ P w K mg base dB 1 a.qv.x a.qv.d ["_law_k","_law_number"] C9:=by
 refine T.qv.ok jV λm A outer s H B Q E C h=>?_
 ·obtain⟨k,N,rfl,q⟩:=h;refine⟨_,(af (aL (aD aT (aA aS (aA bL (Y 1) ae) ae) ae (aF _)) (af (bj 2 jV.nd (bu (ac aE (ac aE (ac aE (ac aE (ac aE (ac aE (ac aE (ac aE (ac aE (ac aE (ac aE (ac aE O)))))))))))))) (ah (az (gB K (Y 2) (aA aS (aA bQ (Y 0) (aA bL (Y 1) ae)) ae))))) aC) (af (bj 3 jV.nd (gB K (bu (ac aE (ac aE (ac aE (ac aE O))))) (aA aS (Y 1) ae))) (af (bj 4 jV.nd (aA aS (aA bL (Y 1) ae) (aA bQ (au (aG K rfl) (by rfl) T.bo L2.aK (ac (Y 3) O)) ae))) (af (bj 5 jV.nd (aA aS (aA bQ (Y 0) (aA bL (Y 1) ae)) ae)) (ah (az (aA iW (aA iW (gk wj (Y 3) iy (ix (Y 4))) (xW zY aE (Y 5) (λ_ _=>rfl))) (gk wj (Y 3) (ix (Y 4)) iy)))))))),?_⟩
  have b1:=aZ (k+N/160) (show(0:Int)<12 by decide);have b2:=aZ (k+N/160) (show(0:Int)<36 by decide);have b3:=aZ N (show(0:Int)<4 by decide)
  walk_at "a"
  refine kj (λn=>?_) (λn=>?_)
  ·refine⟨ls rfl,λl hl=>?_⟩
   walk_at "a"
   obtain⟨z,hz,f⟩:=i3 (zs:=HC) b1.1 b1.2;exact⟨l,_,_,U rfl ⟨rfl,aX.of ag,f,q z _ (aj (am.refl H) hl) (HN (Ds z hz))⟩⟩
  ·refine⟨ls rfl,λl hl=>?_⟩;obtain⟨z,hz,f⟩:=i3 (zs:=CT) b3.1 b3.2;have r:=Br z hz;have j:=aj (o:=.lst [V.str "",V.str "ann7",V.str "0",V.str "guestofthishouse99"]) (am.refl H) hl;have c:aJ H l (.lst [V.str "",V.str "ann7",V.str "0",V.str "guestofthishouse99"]) l=some (.lst [V.str "",V.str "ann7",V.str "0",V.str "guestofthishouse99"]):=ag;generalize aJ H l (.lst [V.str "",V.str "ann7",V.str "0",V.str "guestofthishouse99"])=D at j c⊢
   walk_at "a"
   refine⟨l,_,_,U rfl ⟨rfl,aX.of c,f,aq ?_⟩⟩
   walk_at "a"
   refine⟨_,z.length,rfl,⟨df (by lia),rfl⟩,_,U rfl ⟨rfl,r2 ⟨(by show(0:Int)<_;exact o_.mpr (n0 _)),aq ?_⟩⟩⟩;have t:=aZ (N/4) (show(0:Int)<(z.length:Int)+1 by exact o_.mpr (n0 _));have u:=Txt.slice_le z none (some (N/4%((z.length:Int)+1)));have v:=Txt.slice_le z (some (N/4%((z.length:Int)+1))) none;have hok:=GL z hz (N/4%((z.length:Int)+1)).toNat (by rw[n_];lia) ((k+N/160)%36).toNat (by rw[n_];lia);have e:=IQ ((k+N/160)%36).toNat (by rw[n_];lia);rw[show(((N/4%((z.length:Int)+1)).toNat:Nat):Int)=N/4%((z.length:Int)+1)by lia]at hok;rw[show((((k+N/160)%36).toNat:Nat):Int)=(k+N/160)%36 by lia]at e;generalize Dv ((k+N/160)%36).toNat=g at*;have i:∀a b:Str,(a++b).length=a.length+b.length:=λa b=>by show(a.cps++b.cps).size=a.cps.size+b.cps.size;exact Array.size_append
   have y:(⟨#[g]⟩:Str).length=1:=rfl
   walk_at "a"
   refine⟨df (by lia),?_⟩
   walk_at "a"
   exact⟨"abcdefghijklmnopqrstuvwxyz0123456789",_,g,rfl,rfl,df (by decide+kernel),e,_,(⟨#[g]⟩:Str),rfl,rfl,df (by lia),U rfl (U rfl ⟨N/4%((z.length:Int)+1),rfl,z,rfl,df (by lia),_,U rfl ⟨rfl,df (by rw[i];lia),q _ _ j (HN hok)⟩⟩)⟩
theorem yi(T:Txt K mg a):∀h:Nat,aQ P w K mg base dB (h+1) a.eP.x a.eP.d ["_law_number","_law_high"] (FU K h)
 |0=>by
  refine T.eP.f.ok lD (λS H Q E h=>?_) (λW A outer s H S Q E e h=>?_)
  ·obtain⟨n,i,rfl,_⟩:=h;rfl
  ·obtain⟨n,i,rfl,h1,h2,_⟩:=h;lia|hh+1=>by
  have G:=yi T hh;refine T.eP.f.ok lD (λS H Q E h=>?_) (λW A outer s H S Q E e h=>?_)
  ·obtain⟨n,i,rfl,_⟩:=h;rfl
  ·obtain⟨n,i,rfl,h1,h2,q⟩:=h;refine⟨_,(af (bj 2 lD.nd (aA aS (Y 0) ae)) (af (bj 3 lD.nd (aA bL (Y 0) ae)) (af (bj 4 lD.nd (gB K (bu (ac aE (ac aE (ac aE O)))) (aA aS (Y 3) ae))) (af (aL (aD aT (Y 2) ae (aF _)) (ah (az (bK (ac aE (ac (Y 4) O))))) aC) (af (aL (PW.pt (fm (aD aT (Y 2) ae (aF _)) (dI (aD aT (Y 2) ae (aF _))))) (ah (az (bK (ac aE (ac (Y 4) (ac (aA fB (aA aS (aA bL (Y 3) ae) ae) ae) O)))))) aC) (af (aL (PW.pt (kL (aD qG (Y 1) ae (aF _)) (iw (aD aT (Y 2) ae (aF _))))) (ah (az (bK (ac aE (ac (bB G e rfl T.eP.m T.eP.f.kp T.eP.b .nil bq (ac (Y 3) (ac (aA fB (Y 1) ae) O))) O))))) aC) (af (aL (PW.pt (kL (aD qG (Y 1) ae (aF _)) (iw (aD aT (Y 2) ae (aF _))))) (ah (az (bK (ac aE (ac (bB G e rfl T.eP.m T.eP.f.kp T.eP.b .nil bq (ac (Y 3) (ac (aA fB (Y 1) ae) O))) (ac (bB G e rfl T.eP.m T.eP.f.kp T.eP.b .nil bq (ac (aA bL (Y 3) ae) (ac (aA fB (Y 1) ae) O))) O)))))) aC) (af (aL (PW.pt (kL (aD qG (Y 1) ae (aF _)) (iw (aD aT (Y 2) ae (aF _))))) (ah (az (bK (ac aE (ac (bB G e rfl T.eP.m T.eP.f.kp T.eP.b .nil bq (ac (Y 3) (ac (aA fB (Y 1) ae) O))) (ac (bB G e rfl T.eP.m T.eP.f.kp T.eP.b .nil bq (ac (aA bL (Y 3) ae) (ac (aA fB (Y 1) ae) O))) O)))))) aC) (ah (az (bK (ac aE O)))))))))))),?_⟩
   have X:2<=2^(hh+1):=by rw[Nf];have:=Nat.two_pow_pos hh;lia
   walk_at "a"
   refine⟨ls rfl,λl hl=>?_⟩;have b3:=aZ (n/10) (show(0:Int)<3 by decide);obtain⟨z,hz,ha⟩:=i3 (zs:=LH) b3.1 b3.2;have v:=aj (o:=.lst [V.str "age",V.str "size",V.str "old"]) (am.refl H) hl;have y:aJ H l (.lst [V.str "age",V.str "size",V.str "old"]) l=some (.lst [V.str "age",V.str "size",V.str "old"]):=ag;generalize aJ H l (.lst [V.str "age",V.str "size",V.str "old"])=H0 at v y⊢
   walk_at "a"
   refine⟨l,_,_,U rfl ⟨rfl,aX.of y,ha,aq ?_⟩⟩;clear y ha b3;refine qK (qa ?_ (λN j=>?_))
   rotate_left
   ·walk_at "a"
    refine kj (λe1=>?_) (λe1=>j);exact U rfl ⟨ls rfl,λt c=>q (.has z) _ _ (aj v c) (.has (bd.of ag)) (.has hz) (by show 1<=hh+1;exact n0 _) X⟩
   refine qa ?_ (λN j=>?_)
   rotate_left
   ·have b9:=aZ (n/10/3) (show(0:Int)<9 by decide);have ad:=pC;refine U rfl ⟨rfl,U rfl (kj (λ_=>bD ?_) (λ_=>(U rfl ⟨rfl,U rfl (kj (λ_=>?_) (λ_=>j))⟩)))⟩
    all_goals
     walk_at "a"
     exact⟨ls rfl,λt c=>q (.least z _) _ _ (aj v c) (.least (bd.of ag)) (.least hz (by lia) (by lia)) (by show 1<=hh+1;lia) X⟩
   have two:∀m:Nat,m<2^hh->m+1<2^(hh+1):=λm hm=>by rw[Nf];lia
   have u:∀m k:Nat,m<2^hh->k<2^hh->m+k+1<2^(hh+1):=λm k hm hk=>by rw[Nf];lia
   refine qa ?_ (λN j=>?_)
   rotate_left
   ·refine U rfl (r2 (U rfl (iZ (λg=>?_) (λ_=>bX j))));refine U rfl ⟨rfl,U rfl (kj (λ_=>?_) (λ_=>j))⟩;refine U rfl (U rfl (r2 ⟨n/10,i-1,rfl,by lia,by lia,λr R H1 I e J h3 h4=>⟨ls rfl,λt c=>?_⟩⟩));exact q (.not r) _ _ (aj (v.trans I) c) (.not (bd.of ag) (e.kp (.of (aj (am.refl _) c)))) (.not J) (by show r.hgt+1<=hh+1;exact tA h3) (two _ h4)
   refine qa ?_ (λN j=>?_)
   rotate_left
   ·refine U rfl (r2 (U rfl (iZ (λg=>?_) (λ_=>bX j))));refine U rfl ⟨rfl,U rfl (kj (λ_=>?_) (λ_=>j))⟩;refine U rfl (U rfl (r2 ⟨n/10,i-1,rfl,by lia,by lia,λr R H1 I e J h3 h4=>?_⟩));refine U rfl (r2 ⟨⟨by decide,by decide⟩,U rfl (r2 ⟨n/10/40,i-1,rfl,by lia,by lia,λp B Z L C D aa F=>⟨ls rfl,λt c=>?_⟩⟩)⟩);have M:=aj (o:=.tup [.str "both",R,B]) (am.refl Z) c;exact q (.both r p) _ _ (aj ((v.trans I).trans L) c) (.both (bd.of ag) ((e.kp (.of L)).kp (.of M)) (C.kp (.of M))) (.both J D) (by show max r.hgt p.hgt+1<=hh+1;lia) (by rw[show(Ru.both r p).cnt=r.cnt+p.cnt+1 from ri (·+1) ga];exact u _ _ h4 F)
   refine qa ?_ (λN j=>?_)
   rotate_left
   ·refine U rfl (r2 (U rfl (iZ (λg=>?_) (λ_=>bX j))));refine U rfl ⟨rfl,U rfl (kj (λ_=>?_) (λ_=>j))⟩;refine U rfl (U rfl (r2 ⟨n/10,i-1,rfl,by lia,by lia,λr R H1 I e J h3 h4=>?_⟩));refine U rfl (r2 ⟨⟨by decide,by decide⟩,U rfl (r2 ⟨n/10/40,i-1,rfl,by lia,by lia,λp B Z L C D aa F=>⟨ls rfl,λt c=>?_⟩⟩)⟩);have M:=aj (o:=.tup [.str "either",R,B]) (am.refl Z) c;exact q (.either r p) _ _ (aj ((v.trans I).trans L) c) (.either (bd.of ag) ((e.kp (.of L)).kp (.of M)) (C.kp (.of M))) (.either J D) (by show max r.hgt p.hgt+1<=hh+1;lia) (by rw[show(Ru.either r p).cnt=r.cnt+p.cnt+1 from ri (·+1) ga];exact u _ _ h4 F)
   exact⟨ls rfl,λt c=>q .any _ _ (aj v c) (.any (bd.of ag)) .any (by show 1<=hh+1;exact n0 _) X⟩
end
def zN(m:Int)(j:Nat):Str:=LH.getD (((j:Int)+m)%3).toNat "age"
def JH:List Str:=["marka","markb","markc","markd","marke"]
def GG(m:Int):zN m=zN (m%3):=by
 funext j
 unfold zN;rw[Int.add_emod,Int.add_emod (j:Int) (m%3),Int.emod_emod]
def Eg(m:Int):(JH++(List.range 3).map (zN m)).Nodup/\∀z∈JH++(List.range 3).map (zN m),J6 z=true:=by rw[GG];have b:=aZ m (show(0:Int)<3 by decide);rcases(by lia:m%3=0\/m%3=1\/m%3=2)with e|e|e<;>rw[e]<;>decide+kernel
def Jj{m:Int}{j:Nat}:um [V.str "age",V.str "size",V.str "old"] ((0+(j:Int)+m)%3)=some (V.str (zN m j)):=by rw[Int.zero_add];have b:=aZ ((j:Int)+m) (show(0:Int)<3 by decide);unfold zN;rcases(by lia:((j:Int)+m)%3=0\/((j:Int)+m)%3=1\/((j:Int)+m)%3=2)with e|e|e<;>rw[e]<;>rfl
def Kj(K:N1)(H:Hp)(v:V)(m:Str×Int):Prop:=∃b,v=.ref b/\bd K H b [.str m.1,.int m.2]
def qL(e:Kp H H')(h:Paired (Kj K H) c d):Paired (Kj K H') c d:=Paired.mapP h λv m⟨b,h1,h2⟩=>⟨b,h1,e.tq h2⟩
def K4{a:Addr}{c:List V}{d:List (Str×Int)}(h:Paired (Kj K H) c d)(e:bd K H a c):rH K H d (.ref a):=⟨a,c,rfl,e,Paired.length h,λi m hm=>by obtain⟨v,h1,b,rfl,h2⟩:=wy h i m hm;exact⟨b,h1,h2⟩⟩
def ph{ns:Ob}{i:Int}(h0:0<=i)(h1:i<(ns.length:Int)):∃z∈ns,um (ns.map V.int) i=some (V.int z):=by obtain⟨v,b,hm⟩:=zb (xs:=ns.map V.int) h0 (by rw[b_];exact h1);obtain⟨z,hz,rfl⟩:=ig.mp hm;exact⟨z,hz,b⟩
def AX:List (Str×Int):=[("marka",-2),("markb",-1),("markc",0),("markd",1),("marke",2)]
def EW:∀j∈List.range 5,um ("abcde":Str).cps.toList (0+(j:Int))=some (97+j)/\AX[j]?=some (("mark":Str)++(⟨#[97+j]⟩:Str),0+(j:Int)-2):=by decide+kernel
inductive C5(K:N1)(vs:List V)(H:Hp)(Q:VK)(_E:XK):Prop|mk(n:Int)(_:vs=[.int n])(_:∀(t:Addr)(ms:List (Str×Int))H',am H H'->rH K H' ms (.ref t)->(∀m∈ms,Wd m.1/\-dw<=m.2/\m.2<=dw)->(ms.map Prod.fst).Nodup->ms.length<=8->Q (.ref t) H')
section
def BS(T:Txt K mg a):aQ P w K mg base dB 2 a.qu.x a.qu.d ["_law_number"] (C5 K):=by
 refine T.qu.ok jU λba A outer s H r Q E hr h=>?_
 ·obtain⟨n,rfl,q⟩:=h;refine⟨_,(af (bj 1 jU.nd (bu O)) (af (dJ k_ rfl (cC rfl T.dA (ac ae O)) (qF 2 jU.nd) (ah (aL (aD aT (aA aS (aA bL (Y 0) (gB K (bu (ac ae (ac ae (ac ae O)))) (Y 2))) ae) ae (aF _)) (af (bj 3 jU.nd (gB K (bu (ac aE (ac aE (ac aE O)))) (aA aS (aA bQ (Y 2) (aA bL (Y 0) ae)) ae))) (ah (aR (ii K rfl PySem.F.plainAttrs_list PySem.F.slot_list_append PySem.F.type_list_append eI (Y 1) (ac (bK (ac (Y 3) (ac (aA fB (aA aS (aA bL (Y 0) (gB K (bu (ac ae (ac ae (ac ae O)))) (Y 2))) ae) ae) O))) O))))) aC))) (af (aL (aD aT (aA aS (aA bL (Y 0) ae) ae) ae (aF _)) (ah (bj 1 jU.nd (aA wC (rT uu [] [2] [2] (ai tz) (cb 2) (cC rfl T.dA (ac ae O)) (λcl C s₀ H₀ ex=>⟨(oI uu [] 2),cF,(bK (ac (aA iW aE (xW zY aE (Y 2) (λ_ _=>rfl))) (ac (aA fB (Y 2) ae) O)))⟩)) (Y 1)))) aC) (ah (az (dL (fZ K rfl) (by rfl) T.eM L2.ce (ac (Y 1) O))))))),?_⟩
  refine⟨ls rfl,λl hl=>?_⟩;have s0:=aj (o:=.lst []) (am.refl H) hl;refine aq ⟨3,rfl,by exact hY _,by exact hY _,?_⟩;refine gJ (lo:=0) (n:=3) (λi S H'=>am H H'/\(FC λ(g:List (Str×Int))(r:List V)=>An5 (H' l=some (.lst r)) (Paired (Kj K H') r g) ((g.map (·.1)).Sublist ((List.range i).map (zN (n/8)))) ((∀m∈g,-100<=m.2/\m.2<=100)) (FC λW X=>S=[some (.int n),some (.ref l),W,X]))) ⟨s0,[],[],ag,.nil,List.nil_sublist _,(λm hm=>nomatch hm),_,_,rfl⟩ ?_ ?_
  ·rintro i S Z hi⟨s1,g,r,hL,G,b,hb,W,X,rfl⟩;refine aq ?_
   walk_at "a"
   refine⟨ls rfl,λl1 as=>?_⟩;have f:=aj (o:=.lst [V.int 1,V.int 2,V.int 4]) (am.refl Z) as;have u:aJ Z l1 (.lst [V.int 1,V.int 2,V.int 4]) l1=some (.lst [V.int 1,V.int 2,V.int 4]):=ag;generalize aJ Z l1 (.lst [V.int 1,V.int 2,V.int 4])=I at f u⊢;obtain⟨d,hd,ha⟩:=ph (ns:=[1,2,4]) (i:=0+(i:Int)) (by exact hY _) (by show _<(3:Int);lia);have bb:d=1\/d=2\/d=4:=by simpa using hd
   refine U rfl ⟨l1,_,_,U rfl ⟨rfl,aX.of u,ha,_,U rfl ⟨rfl,⟨by lia,by lia⟩,_,U rfl ⟨rfl,(show(0:Int)<2 by decide),rfl,U rfl ?_⟩⟩⟩⟩;refine kj (λ_=>?_) (λ_=>?_)
   ·refine⟨ls rfl,λl2 ax=>?_⟩;have J:=aj (o:=.lst [V.str "age",V.str "size",V.str "old"]) (am.refl I) ax;have v:aJ I l2 (.lst [V.str "age",V.str "size",V.str "old"]) l2=some (.lst [V.str "age",V.str "size",V.str "old"]):=ag;generalize aJ I l2 (.lst [V.str "age",V.str "size",V.str "old"])=H3 at J v⊢
    walk_at "a"
    refine⟨l2,_,_,U rfl ⟨rfl,aX.of v,Jj,aq ?_⟩⟩;have ay:=J _ _ (f _ _ hL);refine U rfl ⟨.inl ⟨rfl,_,aX.of ay⟩,U rfl (U rfl ⟨ls rfl,λl3 a0=>?_⟩)⟩;have s4:=aj (o:=.lst [V.int 24,V.int 240,V.int 2400]) (am.refl H3) a0;have y:aJ H3 l3 (.lst [V.int 24,V.int 240,V.int 2400]) l3=some (.lst [V.int 24,V.int 240,V.int 2400]):=ag;generalize aJ H3 l3 (.lst [V.int 24,V.int 240,V.int 2400])=H4 at s4 y⊢;obtain⟨k,a2,a3⟩:=ph (ns:=[24,240,2400]) (i:=0+(i:Int)) (by exact hY _) (by show _<(3:Int);lia);have a8:k=24\/k=240\/k=2400:=by simpa using a2
    have bc:=aZ (n/k) (show(0:Int)<10 by decide);refine U rfl ⟨l3,_,_,U rfl ⟨rfl,aX.of y,a3,_,U rfl ⟨rfl,⟨by lia,by lia⟩,_,U rfl ⟨rfl,(show(0:Int)<10 by decide),_,U rfl ⟨rfl,ls rfl,λt ht=>?_⟩⟩⟩⟩⟩;have s5:=aj (o:=.tup [.str (zN (n/8) i),.int (n/k%10-5)]) (am.refl H4) ht;have aa:aJ H4 t (.tup [.str (zN (n/8) i),.int (n/k%10-5)]) t=some (.tup [.str (zN (n/8) i),.int (n/k%10-5)]):=ag;have s6:am Z (aJ H4 t (.tup [.str (zN (n/8) i),.int (n/k%10-5)])):=((f.trans J).trans s4).trans s5;generalize aJ H4 t (.tup [.str (zN (n/8) i),.int (n/k%10-5)])=H5 at s6 aa⊢;have ad:=s6 _ _ hL;have a5:=Paired.length G;have L:=b.length_le;rw[b_,b_,md]at L;refine rA ad (by rw[g8];lia) ⟨bM (s1.trans s6) hl,g++[(zN (n/8) i,n/k%10-5)],_,ag,?_,?_,λm hm=>?_,_,_,rfl⟩
    ·exact qL (.lst ad) (Paired.snoc (qL (.of s6) G) ⟨t,rfl,bd.of aa⟩)
    ·rw[gg,s_,gg];exact b.append (NJ _)
    ·rcases List.mem_append.mp hm with z|z
     ·exact hb m z
     ·rw[List.mem_singleton.mp z];show-100<=n/k%10-5/\n/k%10-5<=100;lia
   ·refine⟨s1.trans f,g,r,f _ _ hL,qL (.of f) G,?_,hb,_,_,rfl⟩;rw[s_,gg];exact b.trans (List.sublist_append_left _ _)
  ·rintro S Z⟨s1,g,r,hL,G,b,hb,W,X,rfl⟩
   walk_at "a"
   refine HW (λS H'=>am H H'/\(LP λ(l':Addr)(g:List (Str×Int))(r:List V)=>An5 (H' l'=some (.lst r)) (Paired (Kj K H') r g) ((g.map (·.1)).Sublist (JH++(List.range 3).map (zN (n/8)))) ((∀m∈g,-100<=m.2/\m.2<=100)) (FC λW X=>S=[some (.int n),some (.ref l'),W,X]))) ?A (λN hJ=>?B)
   case B=>
    refine kj (λ_=>?_) (λ_=>hJ _ _ ⟨s1,l,g,r,hL,G,b.trans (List.sublist_append_right _ _),hb,_,_,rfl⟩);refine⟨5,rfl,by exact hY _,by exact hY _,λD hD=>?_⟩;refine d6 (K:=K) (lo:=0) (n:=5) (λj p H'=>am Z H'/\H' D=some (.lst p)/\Paired (Kj K H') p (AX.take j)) ⟨aj (am.refl _) hD,ag,.nil⟩ ?_ ?_
    ·rintro j p I hj⟨f,M,c⟩;obtain⟨e1,e2⟩:=EW j (n_.mpr hj);have R:=Paired.length c;rw[ji]at R;refine aq (jB (bD ?_));refine U rfl ⟨"abcde",_,97+j,rfl,rfl,df (by decide+kernel),e1,"mark",(⟨#[97+j]⟩:Str),rfl,rfl,df (show 4+1<=65536 by decide),U rfl (r2 ⟨ls rfl,λt ht=>?_⟩)⟩;have J:=aj (o:=.tup [.str (("mark":Str)++(⟨#[97+j]⟩:Str)),.int (0+(j:Int)-2)]) (am.refl I) ht;have al:=J _ _ M;refine⟨al,by rw[g8];lia,lf hj ⟨bM (f.trans J) hD,ag,?_⟩⟩;rw[cT e2];exact qL (.lst al) (Paired.snoc (qL (.of J) c) ⟨t,rfl,bd.of ag⟩)
    ·rintro p I⟨f,M,c⟩;have R:=Paired.length c;have a5:=Paired.length G;have L:=b.length_le;rw[b_,b_,md]at L;refine U rfl ⟨D,l,_,U rfl ⟨rfl,M,f _ _ hL,by rw[g8];have:p.length=5:=R;lia,λl' an=>aq (hJ _ _ ⟨aj (s1.trans f) an,l',AX++g,_,ag,qL (.new an) (zE c (qL (.of f) G)),?_,λm hm=>?_,_,_,rfl⟩)⟩⟩
     ·rw[gg];exact(NJ _).append b
     ·rcases List.mem_append.mp hm with z|z
      ·exact(by decide:∀m∈AX,-100<=m.2/\m.2<=100) m z
      ·exact hb m z
   case A=>rintro S I⟨f,l',a6,bi,a7,c,e,ap,W,X,rfl⟩;refine U rfl ⟨l',U rfl (.inl ⟨aX.of a7,λt ht=>?_⟩)⟩;obtain⟨m1,m2⟩:=Eg (n/8);have bl:=pC;exact q t a6 _ (aj f ht) (K4 (qL (.new ht) c) (bd.of ag)) (λm hm=>⟨vc (m2 _ (e.subset (ig.mpr ⟨m,hm,rfl⟩))),by have:=ap m hm;lia,by have:=ap m hm;lia⟩) (e.nodup m1) (by have:=e.length_le;rw[b_]at this;exact this)
end
def uq(p:Nat):Prop:=p∈[2,3,5,7,11,13]
def uq.le{p:Nat}(h:uq p):2<=p/\p<=13:=(by decide:∀p∈[2,3,5,7,11,13],2<=p/\p<=13) p h
structure zk where
 pl:Addr
 L:Addr
 T:Addr
def CB(K:N1)(H:Hp)(v:V)(t:Str×Nat):Prop:=∃b,v=.ref b/\bd K H b [.str t.1,.int t.2]
def CB.kp(e:Kp H H')(h:Paired (CB K H) c d):Paired (CB K H') c d:=Paired.mapP h λv m⟨b,h1,h2⟩=>⟨b,h1,e.tq h2⟩
structure pj(K:N1)(H:Hp)(p:Nat)(sa:Int)(ns:N7)(ts:List (Str×Nat))(A:zk):Prop where
 pl:H A.pl=some (.lst [.int p,.int sa,.ref A.L,.ref A.T])L:H A.L=some (.lst (ns.map V.str))T:∃us,H A.T=some (.lst us)/\Paired (CB K H) us ts
 n1:A.pl≠A.L
 n2:A.pl≠A.T
 n3:A.L≠A.T
def pj.same(h:pj K H p sa ns c A)(e:am H H'):pj K H' p sa ns c A:=let⟨b,h1,h2⟩:=h.T
 ⟨e _ _ h.pl,e _ _ h.L,⟨b,e _ _ h1,CB.kp (.of e) h2⟩,h.n1,h.n2,h.n3⟩
inductive FX(K:N1)(vs:List V)(H:Hp)(Q:VK)(_E:XK):Prop|mk(sc:Addr)(ns:Ob)(_:vs=[.ref sc])(_:aX K H sc (ns.map V.int))(_:ns.length<=63)(_:∀(A:zk)(p:Nat)(sa:Int)H',am H H'->H A.pl=none->H A.L=none->H A.T=none->pj K H' p sa [] [] A->uq p->(0<=sa/\sa<=dw)->Q (.ref A.pl) H')
section
def DT(T:Txt K mg a):aQ P w K mg base dB 3 a.v0.x a.v0.d ["_law_script"] (FX K):=by
 refine T.v0.ok sQ λD A outer s H I Q E u h=>?_
 ·obtain⟨v,ns,rfl,y,hl,q⟩:=h;have F:=vg;refine⟨_,(af (bj 1 sQ.nd (pc T.dP (cD T) u (ac (Y 0) (ac ae (ac ae O))))) (af (bj 2 sQ.nd (gB K (bu (ac ae (ac ae (ac ae (ac ae (ac ae (ac ae (ac ae (ac ae O))))))))) (aA aS (Y 1) ae))) (ah (az (bu (ac (Y 2) (ac (aA aS (pc T.i7 (qJ T) u (ac (Y 0) (ac ae O))) (aA bQ (aA tL ae ae) ae)) (ac (bu O) (ac (bu O) O))))))))),?_⟩
  refine U rfl ⟨v,ns,0,1,rfl,y,hl,⟨by decide,by decide⟩,⟨by decide,by decide⟩,aq ?_⟩;generalize cy ns 0 1=x;have l:=aZ x (show(0:Int)<8 by decide);refine⟨ls rfl,λi m=>?_⟩;have f:=aj (o:=.lst [V.int 2,V.int 3,V.int 5,V.int 7,V.int 11,V.int 13,V.int 7,V.int 5]) (am.refl H) m;have e:aJ H i (.lst [V.int 2,V.int 3,V.int 5,V.int 7,V.int 11,V.int 13,V.int 7,V.int 5]) i=some (.lst [V.int 2,V.int 3,V.int 5,V.int 7,V.int 11,V.int 13,V.int 7,V.int 5]):=ag;generalize aJ H i (.lst [V.int 2,V.int 3,V.int 5,V.int 7,V.int 11,V.int 13,V.int 7,V.int 5])=j at f e⊢;obtain⟨p,B,g⟩:=ph (ns:=[2,3,5,7,11,13,7,5]) l.1 l.2
  walk_at "a"
  refine⟨i,_,_,U rfl ⟨rfl,aX.of e,g,aq ?_⟩⟩;have r:uq p.toNat/\0<=p:=(by unfold uq;decide:∀p∈[(2:Int),3,5,7,11,13,7,5],uq p.toNat/\0<=p) p B;obtain⟨pn,rfl⟩:∃n:Nat,p=n:=⟨p.toNat,by lia⟩;clear B g e l;refine U rfl (U rfl ⟨v,ns,1,rfl,f.seq y,hl,?_⟩);generalize vR ns 1=c;have G:=aZ c (show(0:Int)<dw+1 by lia)
  walk_at "a"
  refine⟨ls rfl,λL t=>⟨ls rfl,λT k=>⟨ls rfl,λpl b=>?_⟩⟩⟩;have n3:L≠T:=λz=>by rw[<-z,ag]at k;cases k
  have n2:pl≠T:=λz=>by rw[z,ag]at b;cases b
  have n1:pl≠L:=λz=>by rw[z,ao n3,ag]at b;cases b
  have C:am j (aJ (aJ j L (.lst [])) T (.lst [])):=aj (aj (am.refl j) t) k;exact q ⟨pl,L,T⟩ pn _ _ (f.trans (aj C b)) ((f.trans C).free b) (f.free t) ((f.trans (aj (am.refl j) t)).free k) ⟨ag,by show aJ _ _ _ L=_;rw[ao (mu n1),ao n3,ag];rfl,⟨[],by show aJ _ _ _ T=_;rw[ao (mu n2),ag],.nil⟩,n1,n2,n3⟩ r.1 ⟨G.1,by lia⟩
end
def hV(M:bU):List Str:=M.las.map cP.nm
def iq(M:bU):List (Str×Nat):=M.trs.map λt=>(t.nm,t.arms.length)
def yA(M:bU):Dd->List Str|.layer nm _=>hV M++[nm]|_=>hV M
def vf(M:bU):Dd->List (Str×Nat)|.trial x=>iq M++[(x.nm,x.arms.length)]|_=>iq M
def fq(ns:Ob)(m:Nat):List Str:=(List.range m).map λ(j:Nat)=>cV j (cy ns 3 4)
def Fm(ns:Ob)(h:m<=4):(fq ns m).length=m/\(fq ns m).Nodup/\∀x∈fq ns m,Wd x:=by
 refine⟨by unfold fq;rw[b_,md],?_,λx b=>?_⟩
 ·refine List.pairwise_iff_getElem.mpr λi j hi hj c e=>?_;unfold fq at e hi hj;rw[b_,md]at hi hj;rw[NQ,NQ,List.getElem_range,List.getElem_range]at e;have:=pA ⟨by exact hY _,by lia⟩ ⟨by exact hY _,by lia⟩ e;lia
 ·obtain⟨j,_,rfl⟩:=ig.mp b;exact rZ _ _
structure jz(ns:Ob)(M:bU):Prop where
 ln:∀(i:Nat)(l:cP),M.las[i]?=some l->l.nm=cV i (cy ns 1 2)/\l.sl=(cy ns 2 2+i)%((M.p:Int)+1)tn:∀(j:Nat)(t:dq),M.trs[j]?=some t->t.nm=cV j (cy ns 2 3)/\t.arms=fq ns t.arms.length
 lp:M.las.length<=M.p+1
 pr:uq M.p
def JZ(ns:Ob)(M:bU):Dd->Prop|.layer nm sl=>nm=cV M.las.length (cy ns 1 2)/\sl=(cy ns 2 2+M.las.length)%((M.p:Int)+1)/\M.las.length<M.p+1|.trial x=>x.nm=cV M.trs.length (cy ns 2 3)/\x.arms=fq ns x.arms.length|.deal _ z b=>z<=100/\∀x∈b,x<=9|_=>True
def LQ(A:zk)(H H':Hp):Prop:=∃o,(o=A.L\/o=A.T)/\Kp H H'/\∀b ob,H b=some ob->b≠o->H' b=some ob
theorem LQ.of(s:am H H'):LQ A H H':=⟨A.L,.inl rfl,.of s,λb o h _=>s b o h⟩
def i9(K:N1)(ns:Ob)(M:bU)(A:zk)(H:Hp)(Q:VK):Prop:=∀(b:Addr)(d:Dd)(c:List V)(H':Hp),LQ A H H'->bd K H' b c->mf K H' M d c->pj K H' M.p M.salt (yA M d) (vf M d) A->JZ ns M d->(M.trs.length=0->d.adds=true)->Q (.ref b) H'
def i9.same(h:i9 K ns M A H Q)(s:am H c):i9 K ns M A c Q:=λe d f H'⟨o,h1,h2,h3⟩=>h e d f H' ⟨o,h1,Kp.trans (.of s) h2,λb ob g=>h3 b ob (s b ob g)⟩
structure ux(K:N1)(H:Hp)(sc:Addr)(ns:Ob)(M:bU)(A:zk)(c:Nat):Prop where
 sq:aX K H sc (ns.map V.int)len:ns.length<=63
 pl:pj K H M.p M.salt (hV M) (iq M) A
 ok:ma M c
 pn:jz ns M
 n4:∀H',(∀b ob,H b=some ob->b≠A.L->H' b=some ob)->aX K H' sc (ns.map V.int)
theorem ux.same(h:ux K H d ns M A c)(s:am H H'):ux K H' d ns M A c:=⟨s.seq h.sq,h.len,h.pl.same s,h.ok,h.pn,λf g=>h.n4 f λb ob e n=>g b ob (s b ob e) n⟩
def pj.addL(h:pj K H p sa ns c A)(x:Str):pj K (aJ H A.L (.lst (ns.map V.str++[.str x]))) p sa (ns++[x]) c A:=let⟨b,h1,h2⟩:=h.T
 ⟨by rw[ao h.n1];exact h.pl,by rw[ag,gg];rfl,⟨b,by rw[ao (mu h.n3)];exact h1,CB.kp (.lst h.L) h2⟩,h.n1,h.n2,h.n3⟩
def pj.addT(h:pj K H p sa ns c A)(h1:H A.T=some (.lst d))(h2:Paired (CB K H) d c)(e:bd K H b [.str x.1,.int x.2]):pj K (aJ H A.T (.lst (d++[.ref b]))) p sa ns (c++[x]) A:=⟨by rw[ao h.n2];exact h.pl,by rw[ao h.n3];exact h.L,⟨_,ag,CB.kp (.lst h1) (Paired.snoc h2 ⟨b,rfl,e⟩)⟩,h.n1,h.n2,h.n3⟩
inductive IC(K:N1)(vs:List V)(H:Hp)(Q:VK)(_E:XK):Prop|mk(sc:Addr)(ns:Ob)(M:bU)(A:zk)(c:Nat)(_:vs=[.ref sc,.ref A.pl])(_:ux K H sc ns M A c)(_:M.las.length<4)(_:M.las.length<M.p+1)(_:i9 K ns M A H Q)
def BE(h:jz ns M)(hl:M.las.length<M.p+1):(cy ns 2 2+M.las.length)%((M.p:Int)+1)∉M.las.map cP.sl:=λz=>by obtain⟨l,hm,e⟩:=ig.mp z;obtain⟨i,hi⟩:=hQ.mp hm;have b:=(d_.mp hi).1;rw[(h.ln i l hi).2]at e;have h1:((cy ns 2 2+M.las.length)-(cy ns 2 2+i))%((M.p:Int)+1)=0:=Nx.mp e.symm;rw[show(cy ns 2 2+(M.las.length:Int))-(cy ns 2 2+i)=((M.las.length-i:Nat):Int)by lia,Int.emod_eq_of_lt (by exact hY _) (by lia)]at h1;lia
def B5(h:jz ns M)(hl:M.las.length<4):cV M.las.length (cy ns 1 2)∉M.las.map cP.nm:=λz=>by obtain⟨l,hm,e⟩:=ig.mp z;obtain⟨i,hi⟩:=hQ.mp hm;have b:=(d_.mp hi).1;rw[(h.ln i l hi).1]at e;have:=pA ⟨by exact hY _,by lia⟩ ⟨by exact hY _,by lia⟩ e;lia
def Bo(h:jz ns M)(hl:M.trs.length<10):cV M.trs.length (cy ns 2 3)∉M.trs.map dq.nm:=λz=>by obtain⟨t,hm,e⟩:=ig.mp z;obtain⟨i,hi⟩:=hQ.mp hm;have b:=(d_.mp hi).1;rw[(h.tn i t hi).1]at e;have:=pA ⟨by lia,by lia⟩ ⟨by lia,by lia⟩ e;lia
section
def uV(T:Txt K mg a):aQ P w K mg base dB 3 a.gT.x a.gT.d ["_law_script","_law_plan_here"] (IC K):=by
 refine T.gT.ok jE λC A outer s H I Q E r h=>?_
 ·obtain⟨z,ns,M,A,c,rfl,g,h4,B,q⟩:=h;refine⟨_,(af (bj 2 jE.nd (au (aG K rfl) (by rfl) T.bo L2.aK (ac (gB K (Y 1) ae) O))) (af (bj 3 jE.nd (pc T.px (oM T) r (ac (Y 2) (ac (pc T.dP (cD T) r (ac (Y 0) (ac ae (ac ae O)))) O)))) (af (aR (ii K rfl PySem.F.plainAttrs_list PySem.F.slot_list_append PySem.F.type_list_append eI (gB K (Y 1) ae) (ac (Y 3) O))) (ah (az (bK (ac aE (ac (Y 3) (ac (aA aS (aA bQ (pc T.dP (cD T) r (ac (Y 0) (ac ae (ac ae O)))) (Y 2)) (aA bQ (gB K (Y 1) ae) ae)) O))))))))),?_⟩
  have t:=g.pl;have j:(hV M).length=M.las.length:=b_ _;refine U rfl (rX (aX.of t.pl) (ak (k:=2) rfl) ⟨_,M.las.length,rfl,.inl ⟨_,aX.of t.L,by rw[b_,j]⟩,aq ?_⟩);refine U rfl (U rfl ⟨z,ns,1,2,rfl,g.sq,g.len,⟨by decide,by decide⟩,⟨by decide,by decide⟩,(M.las.length:Int),cy ns 1 2,rfl,λl m=>aq ?_⟩);have f:=t.same m;refine U rfl (rX (aX.of f.pl) (ak (k:=2) rfl) ⟨.inl ⟨rfl,_,aX.of f.L⟩,U rfl (rA f.L (by rw[b_,j,g8];exact kw h4 (i_ rfl)) ?_)⟩);have i:=f.addL (cV M.las.length (cy ns 1 2));have kp:Kp l (aJ l A.L (.lst ((hV M).map V.str++[.str (cV M.las.length (cy ns 1 2))]))):=.lst f.L;have u:∀b ob,l b=some ob->b≠A.L->aJ l A.L (.lst ((hV M).map V.str++[.str (cV M.las.length (cy ns 1 2))])) b=some ob:=λb ob e n=>by rw[ao n];exact e
  generalize aJ l A.L (.lst ((hV M).map V.str++[.str (cV M.las.length (cy ns 1 2))]))=D at i kp u⊢;have bs:=aZ (cy ns 2 2+M.las.length) (show(0:Int)<(M.p:Int)+1 by exact o_.mpr (n0 _));refine U rfl (U rfl ⟨z,ns,2,2,rfl,(g.same m).n4 _ u,g.len,⟨by decide,by decide⟩,⟨by decide,by decide⟩,U rfl (r2 (U rfl (rX (aX.of i.pl) (ak (k:=0) rfl) (r2 (r2 ⟨by show(0:Int)<(M.p:Int)+1;exact o_.mpr (n0 _),ls rfl,λG v=>?_⟩)))))⟩);have y:=aj (o:=.tup [.str "layer",.str (cV M.las.length (cy ns 1 2)),.int ((cy ns 2 2+M.las.length)%((M.p:Int)+1))]) (am.refl D) v;exact q G (.layer _ _) _ _ ⟨A.L,.inl rfl,Kp.trans (.of m) (Kp.trans kp (.of y)),λb ob e n=>y _ _ (u b ob (m _ _ e) n)⟩ (bd.of ag) (.layer (rZ _ _) (B5 g.pn h4) ⟨bs.1,by lia⟩ (BE g.pn B) h4) (i.same y) ⟨rfl,rfl,B⟩ λ_=>rfl
end
inductive IB(K:N1)(vs:List V)(H:Hp)(Q:VK)(_E:XK):Prop|mk(sc:Addr)(ns:Ob)(M:bU)(A:zk)(c:Nat)(n:Int)(_:vs=[.ref sc,.ref A.pl,.int n])(_:ux K H sc ns M A c)(_:M.trs.length<10)(_:0<M.las.length)(_:i9 K ns M A H Q)
section
def uU(T:Txt K mg a):aQ P w K mg base dB 5 a.gS.x a.gS.d ["_law_script","_law_plan_here","_law_number"] (IB K):=by
 refine T.gS.ok cW λc1 A outer s H vs Q E N h=>?_
 ·obtain⟨sc,ns,M,A,c,n,rfl,R,h10,c2,q⟩:=h;refine⟨_,(af (bj 3 cW.nd (au (aG K rfl) (by rfl) T.bo L2.aK (ac (gB K (Y 1) ae) O))) (af (bj 4 cW.nd (pc T.px (oM T) N (ac (Y 3) (ac (pc T.dP (cD T) N (ac (Y 0) (ac ae (ac ae O)))) O)))) (af (bj 5 cW.nd (gB K (gB K (Y 1) ae) (aA aS (Y 2) (au (aG K rfl) (by rfl) T.bo L2.aK (ac (gB K (Y 1) ae) O))))) (af (bj 6 cW.nd (dL (fZ K rfl) (by rfl) T.eM L2.ce (ac (rT kW [] [9] [9] (ai kK) (cb 9) (cC rfl T.dA (ac (aA bQ ae (aA aS (aA bL (Y 2) ae) ae)) O)) (λcl C s₀ H₀ ex=>⟨(oI kW [] 9),cF,(pc T.px (oM T) N (ac (Y 9) (ac (pc T.dP (cD T) N (ac (Y 0) (ac ae (ac ae O)))) O)))⟩)) O))) (af (bj 7 cW.nd (bu O)) (af (bj 8 cW.nd (pc T.dP (cD T) N (ac (Y 0) (ac (aA bQ ae (Y 3)) (ac ae O))))) (af (dJ k_ rfl (cC rfl T.dA (ac (au (qi rfl) (by rfl) T.D1 L2.uh (ac ae (ac (Y 3) O))) O)) (qF 9 cW.nd) (ah (aL (aD aT (aA aS (aA bL (Y 8) (gB K (bu (ac ae (ac ae (ac ae (ac ae (ac ae (ac ae (ac ae (ac ae O))))))))) (Y 9))) ae) ae (aF _)) (ah (aR (ii K rfl PySem.F.plainAttrs_list PySem.F.slot_list_append PySem.F.type_list_append eI (Y 7) (ac (dg K (gB K (gB K (Y 1) ae) (aA fB (aA fB (Y 3) ae) (Y 9))) ae) O)))) aC))) (af (aR (ii K rfl PySem.F.plainAttrs_list PySem.F.slot_list_append PySem.F.type_list_append eI (gB K (Y 1) ae) (ac (bK (ac (Y 4) (ac (au (aG K rfl) (by rfl) T.bo L2.aK (ac (Y 6) O)) O))) O))) (ah (az (bK (ac aE (ac (Y 4) (ac (Y 5) (ac (Y 6) (ac (bB ((yi T 3).mono (by decide)) N rfl T.eP.m T.eP.f.kp T.eP.b .nil bq (ac (aA bL (Y 2) ae) (ac ae O))) (ac (dL (fZ K rfl) (by rfl) T.eM L2.ce (ac (Y 7) O)) O))))))))))))))))),?_⟩
  have hP:=R.pl;have c3:(hV M).length=M.las.length:=b_ _;have bt:(iq M).length=M.trs.length:=b_ _;have l4:=R.ok.l4;obtain⟨us,an,ap⟩:=hP.T;have as:=Paired.length ap;rw[bt]at as;refine U rfl (rX (aX.of hP.pl) (ak (k:=3) rfl) ⟨_,M.trs.length,rfl,.inl ⟨_,aX.of an,by rw[as]⟩,aq ?_⟩);refine U rfl (U rfl ⟨sc,ns,2,3,rfl,R.sq,R.len,⟨by decide,by decide⟩,⟨by decide,by decide⟩,(M.trs.length:Int),cy ns 2 3,rfl,λH1 s1=>aq ?_⟩);have p:=R.same s1;have bl:=aZ n (show(0:Int)<((hV M).length:Int)by lia);obtain⟨hm,bx,bz⟩:=i3 bl.1 bl.2;refine U rfl (rX (aX.of p.pl.pl) (ak (k:=2) rfl) (U rfl (U rfl (rX (aX.of p.pl.pl) (ak (k:=2) rfl) ⟨_,(hV M).length,rfl,.inl ⟨_,aX.of p.pl.L,by rw[b_]⟩,_,U rfl ⟨rfl,by show(0:Int)<((hV M).length:Int);lia,A.L,_,_,U rfl ⟨rfl,aX.of p.pl.L,bz,aq ?_⟩⟩⟩))));have b4:=aZ (n/4) (show(0:Int)<4 by decide)
  walk_at "a"
  refine⟨by lia,by lia,λD hD=>?_⟩;obtain⟨m,bS,a3,em⟩:∃m:Nat,1<=m/\m<=4/\1+n/4%4=(m:Int):=⟨(1+n/4%4).toNat,by lia,by lia,by lia⟩;rw[em];obtain⟨al,a5,aw⟩:=Fm ns a3;refine d6 (K:=K) (lo:=0) (n:=(m:Int).toNat) (λj S H'=>am H1 H'/\H' D=some (.lst S)/\S=((fq ns m).take j).map V.str) ⟨aj (am.refl _) hD,ag,rfl⟩ ?_ ?_
  ·rintro j S H2 hj⟨s2,G,rfl⟩;rw[show(0:Int)+(j:Int)=((j:Nat):Int)by lia];refine aq (jB (bD ?_));refine U rfl (U rfl ⟨sc,ns,3,4,rfl,s2.seq p.sq,R.len,⟨by decide,by decide⟩,⟨by decide,by decide⟩,(j:Int),cy ns 3 4,rfl,λH3 s3=>?_⟩);refine⟨s3 _ _ G,by rw[b_,ji,g8];omega,lf hj ⟨bM (s2.trans s3) hD,ag,?_⟩⟩;have e:(fq ns m)[j]?=some (cV (j:Int) (cy ns 3 4)):=by unfold fq;rw[f_,Ny (by exact hj)];rfl
   rw[cT e,gg];rfl
  ·rintro S H2⟨s2,G,rfl⟩;rw[hH (by exact B_ al)]at G;refine⟨D,U rfl (.inl ⟨aX.of G,λar a6=>aq ?_⟩)⟩;have s3:am H1 (aJ H2 ar (.tup ((fq ns m).map V.str))):=aj s2 a6;have W:aJ H2 ar (.tup ((fq ns m).map V.str)) ar=some (.tup ((fq ns m).map V.str)):=ag;generalize aJ H2 ar (.tup ((fq ns m).map V.str))=H3 at s3 W⊢;clear G s2 a6 hD;refine⟨ls rfl,λsl ax=>aq ?_⟩;have s4:=aj (o:=.lst []) s3 ax;have X:=aj (o:=.lst []) (am.refl H3) ax _ _ W;have a7:=p.same s4;have Z:H1 sl=none:=s3.free ax;have aa:aJ H3 sl (.lst []) sl=some (.lst []):=ag;generalize aJ H3 sl (.lst [])=H4 at s4 X a7 aa⊢;refine U rfl (U rfl (r2 ⟨sc,ns,5+(M.trs.length:Int),7,rfl,a7.sq,R.len,⟨by exact hY _,by lia⟩,⟨by decide,by decide⟩,aq ?_⟩));generalize cy ns (5+(M.trs.length:Int)) 7=mr;have ay:(if(M.trs.length:Int)<8 then(M.trs.length:Int)else 8)=((min 8 M.trs.length:Nat):Int):=by split<;>lia
   refine U rfl ⟨_,U rfl (U rfl ⟨by rw[ay];exact hY _,by rw[ay];lia,?_⟩)⟩;rw[ay];have nd:((M.trs.map dq.nm).reverse).Nodup:=List.pairwise_reverse.mpr (List.Pairwise.imp (λh=>mu h) R.ok.tn);have c4:((M.trs.map dq.nm).reverse).length=M.trs.length:=by rw[ML,b_]
   refine gJ (lo:=0) (n:=((min 8 M.trs.length:Nat):Int).toNat) (λi σ H'=>am H1 H'/\H' ar=some (.tup ((fq ns m).map V.str))/\∃(B:N7),H' sl=some (.lst (B.map V.str))/\B.Sublist ((M.trs.map dq.nm).reverse.take i)/\∃v9,σ=[some (.ref sc),some (.ref A.pl),some (.int n),some (.int M.trs.length),some (.str (cV M.trs.length (cy ns 2 3))),some (.str hm),some (.ref ar),some (.ref sl),some (.int mr),v9]) ⟨s4,X,[],aa,List.nil_sublist _,_,rfl⟩ ?_ ?_
   ·rintro i σ H5 hi⟨I,g,B,hz,l,v9,rfl⟩;have c5:i<min 8 M.trs.length:=by exact hi
    refine aq ?_;refine U rfl ⟨ls rfl,λl5 b0=>?_⟩;refine gA b0 λH6 u b8=>?_;obtain⟨d,hd,ha⟩:=ph (ns:=[1,4,16,64,256,1024,4096,16384]) (i:=0+(i:Int)) (by lia) (by show _<(8:Int);lia);have b9:=(by decide:∀d∈[(1:Int),4,16,64,256,1024,4096,16384],0<d/\d<1073741824) d hd;refine U rfl ⟨l5,_,_,U rfl ⟨rfl,aX.of b8,ha,_,U rfl ⟨rfl,b9,_,U rfl ⟨rfl,(show(0:Int)<4 by decide),rfl,U rfl ?_⟩⟩⟩⟩;have a0:(M.trs.map dq.nm).reverse[i]?=(M.trs.map dq.nm)[M.trs.length-1-i]?:=by rw[List.getElem?_reverse (by rw[b_];lia),b_]
    obtain⟨t,ht⟩:∃t,M.trs[M.trs.length-1-i]?=some t:=⟨_,fx (by lia)⟩;rw[f_,ht]at a0;refine kj (λ_=>?_) (λ_=>⟨I.trans u,u _ _ g,B,u _ _ hz,by rw[cT a0];exact l.trans (List.sublist_append_left _ _),_,rfl⟩);have cc:=p.pl.same (I.trans u);obtain⟨v,hv,b,rfl,hb⟩:=wy ap (M.trs.length-1-i) (t.nm,t.arms.length) (by unfold iq;rw[f_,ht];rfl);have y:=(s1.trans (I.trans u)) _ _ an;have a8:=u _ _ hz;have a2:=l.length_le;rw[ji]at a2;refine U rfl ⟨.inl ⟨rfl,_,aX.of a8⟩,U rfl (rX (aX.of cc.pl) (ak (k:=3) rfl) (U rfl (r2 (U rfl (r2 ?_)))))⟩;refine rX (aX.of y) (by rw[show(M.trs.length:Int)-1-(0+(i:Int))=((M.trs.length-1-i:Nat):Int)by lia];exact ak hv) (rX (am.tseq (s1.trans (I.trans u)) hb) (ak (k:=0) rfl) ?_);refine rA a8 (by rw[b_,g8];lia) ⟨bM (I.trans u) Z,by rw[ao λz=>by rw[z,hz]at g;cases g];exact u _ _ g,B++[t.nm],by rw[ag,gg];rfl,?_,_,rfl⟩;rw[cT a0];exact l.append (NJ _)
   ·rintro σ H5⟨I,g,B,hz,l,v9,rfl⟩;have ba:=p.same I;have ci:=(l.trans (MT _ _)).nodup nd;have a2:=l.length_le;rw[ji]at a2;have J:=(s1.trans I) _ _ an;have bb:=CB.kp (.of (s1.trans I)) ap;refine U rfl (rX (aX.of ba.pl.pl) (ak (k:=3) rfl) ⟨.inl ⟨rfl,_,aX.of J⟩,U rfl (U rfl ⟨_,m,rfl,.inr ⟨_,bd.of g,by rw[b_,al]⟩,ls rfl,λb hb=>?_⟩)⟩);refine gA hb λH6 u cp=>?_;have y:=u _ _ J;refine rA y (by rw[as,g8];lia) ?_;have bc:=(ba.pl.same u).addT y (CB.kp (.of u) bb) (x:=(cV M.trs.length (cy ns 2 3),m)) (bd.of cp);have kp:Kp H6 (aJ H6 A.T (.lst (us++[.ref b]))):=.lst y;have hk:∀d ob,H6 d=some ob->d≠A.T->aJ H6 A.T (.lst (us++[.ref b])) d=some ob:=λd ob e n=>by rw[ao n];exact e
    generalize aJ H6 A.T (.lst (us++[.ref b]))=H7 at bc kp hk⊢;have nT:∀{d:Addr},H1 d=none->d≠A.T:=λh z=>by rw[z,p.pl.T.choose_spec.1]at h;cases h
    have bi:=hk _ _ (u _ _ g) (λz=>by rw[z,J]at g;cases g);have cA:=hk _ _ (u _ _ hz) (nT Z);refine U rfl (U rfl (U rfl (U rfl (r2 ⟨⟨by decide,by decide⟩,n/16,3,rfl,by decide,by decide,λr rv H8 s8 N ho hh hc=>?_⟩))));refine U rfl ⟨sl,U rfl (.inl ⟨aX.of (s8 _ _ cA),λsh c0=>⟨ls rfl,λdv bn=>?_⟩⟩)⟩;obtain⟨ra,rfl⟩:∃ra,rv=.ref ra:=by cases N<;>exact⟨_,rfl⟩
    have s9:=aj (o:=.tup (B.map V.str)) (am.refl H8) c0;have ad:aJ H8 sh (.tup (B.map V.str)) sh=some (.tup (B.map V.str)):=ag;generalize aJ H8 sh (.tup (B.map V.str))=H9 at s9 ad bn⊢;have sa:=aj (o:=.tup [.str "trial",.str (cV M.trs.length (cy ns 2 3)),.str hm,.ref ar,.ref ra,.ref sh]) (am.refl H9) bn;refine q dv (.trial ⟨cV M.trs.length (cy ns 2 3),hm,fq ns m,r,B,false,false,[]⟩) _ _ ⟨A.T,.inr rfl,Kp.trans (.of ((s1.trans I).trans u)) (Kp.trans kp (.of ((s8.trans s9).trans sa))),λd ob e n=>((s8.trans s9).trans sa) _ _ (hk d ob (((s1.trans I).trans u) _ _ e) n)⟩ (bd.of ag) ?_ ?_ ⟨rfl,by show fq ns m=fq ns (fq ns m).length;rw[al]⟩ λ_=>rfl
    ·exact .trial ⟨rZ _ _,bx,by rw[al];exact bS,by rw[al];exact a3,a5,aw,by show r.hgt<=6;lia,by show B.length<=8;lia⟩ (Bo R.pn h10) (bd.of (((s8.trans s9).trans sa) _ _ bi)) ((N.kp (.of s9)).kp (.of sa)) (by show r.cnt<=30;lia) ho (λw hw=>vc ((by decide+kernel:∀w∈LH,J6 w=true) w hw)) (by decide) (bd.of (sa _ _ ad)) (λz hz=>Mw.mp (z7 (l.subset hz))) ci rfl rfl rfl h10
    ·have:=bc.same ((s8.trans s9).trans sa);rw[show vf M (.trial ⟨cV M.trs.length (cy ns 2 3),hm,fq ns m,r,B,false,false,[]⟩)=iq M++[(cV M.trs.length (cy ns 2 3),m)]by show iq M++[(_,(fq ns m).length)]=_;rw[al]];exact this
end
inductive CZ(K:N1)(vs:List V)(H:Hp)(Q:VK)(_E:XK):Prop|mk(sc:Addr)(ns:Ob)(M:bU)(A:zk)(c:Nat)(k n:Int)(_:vs=[.ref sc,.ref A.pl,.int k,.int n])(_:ux K H sc ns M A c)(_:(0<=k/\k<=1000))(_:0<M.trs.length)(_:i9 K ns M A H Q)
def ux.tri(h:ux K H l ns M A c)(h1:H A.T=some (.lst d))(h2:Paired (CB K H) d (iq M))(n:Int)(h0:0<M.trs.length):∃(t:dq)(b:Addr),t∈M.trs/\um d (n%(d.length:Int))=some (.ref b)/\bd K H b [.str t.nm,.int t.arms.length]:=by
 have e:=Paired.length h2;rw[show(iq M).length=M.trs.length from b_ _]at e;have b:=aZ n (show(0:Int)<(d.length:Int)by lia);have f:(n%(d.length:Int)).toNat<M.trs.length:=by lia
 obtain⟨v,g,i,rfl,j⟩:=wy h2 (n%(d.length:Int)).toNat _ (by unfold iq;rw[f_,fx f];rfl);refine⟨_,i,Mz f,?_,j⟩;have:=ak g;rw[show(((n%(d.length:Int)).toNat:Nat):Int)=n%(d.length:Int)by lia]at this;exact this
section
def BQ(T:Txt K mg a):aQ P w K mg base dB 3 a.qp.x a.qp.d ["_law_script","_law_plan_here","_law_k","_law_number"] (CZ K):=by
 refine T.qp.ok mj λal A outer s H vs Q E hr h=>?_
 ·obtain⟨sc,ns,M,A,c,k,n,rfl,u,⟨k0,k1⟩,h0,q⟩:=h;refine⟨_,(af (bj 4 mj.nd (gB K (gB K (Y 1) ae) (aA aS (Y 3) (au (aG K rfl) (by rfl) T.bo L2.aK (ac (gB K (Y 1) ae) O))))) (af (nA (i:=5) mj.nd rfl (.inr rfl) (aA bQ (aA bL (gB K (Y 1) ae) ae) ae)) (af (aL (aD aT (aA aS (aA bL (Y 3) ae) ae) ae (aF _)) (af (bj 6 mj.nd (dL (fZ K rfl) (by rfl) T.eM L2.ce (ac (rT l9 ["_law_j"] [] [7] (ai oB) (cb 7) (cC rfl T.dA (ac (dg K (Y 4) ae) O)) (λcl C s₀ H₀ ex=>⟨(oI l9 ["_law_j"] 7),cF,(aA bQ ae (aA aS (pc T.dP (cD T) hr (ac (Y 0) (ac (Y 2) (ac (aA bQ ae (Y 7)) O)))) ae))⟩)) O))) (ah (az (bK (ac aE (ac (dg K (Y 4) ae) (ac (aA aS (pc T.dP (cD T) hr (ac (Y 0) (ac (Y 2) (ac ae O)))) (aA bQ (gB K (Y 1) ae) ae)) (ac (Y 6) O)))))))) aC) (ah (az (bK (ac aE (ac (dg K (Y 4) ae) (ac (dL (fZ K rfl) (by rfl) T.eM L2.ce (ac (rT l9 ["_law_j"] [] [7] (ai oB) (cb 7) (cC rfl T.dA (ac (dg K (Y 4) ae) O)) (λcl C s₀ H₀ ex=>⟨(oI l9 ["_law_j"] 7),cF,(aA aS (pc T.dP (cD T) hr (ac (Y 0) (ac (Y 2) (ac (aA bQ ae (Y 7)) O)))) (Y 5))⟩)) O)) O))))))))),?_⟩
  have J:=u.pl;have hp:=u.pn.pr.le;have an:=pC;obtain⟨us,L,X⟩:=J.T;have aa:=Paired.length X;rw[show(iq M).length=M.trs.length from b_ _]at aa;obtain⟨t,b,B,ad,hb⟩:=u.tri L X n h0;have a1:=(u.ok.tr t B).a1;have a4:=(u.ok.tr t B).a4;refine U rfl (rX (aX.of J.pl) (ak (k:=3) rfl) (U rfl (U rfl (rX (aX.of J.pl) (ak (k:=3) rfl) ⟨_,us.length,rfl,.inl ⟨_,aX.of L,rfl⟩,_,U rfl ⟨rfl,by show(0:Int)<(us.length:Int);lia,A.T,_,_,U rfl ⟨rfl,aX.of L,ad,aq ?_⟩⟩⟩))));refine U rfl (rX (aX.of J.pl) (ak (k:=0) rfl) (r2 ⟨⟨by decide,by decide⟩,_,U rfl ⟨rfl,aq (qK (qa ?_ (λN hN=>?_)))⟩⟩))
  rotate_left
  ·walk_at "a"
   refine kj (λ_=>?_) (λ_=>hN);refine U rfl (rX hb (ak (k:=1) rfl) (U rfl ⟨by exact hY _,by lia,λD Z=>?_⟩));refine d6 (K:=K) (lo:=0) (n:=(t.arms.length:Int).toNat) (λj f H'=>am H H'/\H' D=some (.lst f)/\∃(e:Ob),f=e.map V.int/\e.length=j/\∀x∈e,1<=x/\x<=9) ⟨aj (am.refl _) Z,ag,[],rfl,rfl,λx r=>nomatch r⟩ ?_ ?_
   ·rintro j f R hj⟨F,l,e,rfl,m,g⟩;refine aq (jB (bD ?_));have b9:=aZ (cy ns k (11+(0+(j:Int)))) (show(0:Int)<9 by decide);refine U rfl (U rfl (U rfl (r2 ⟨sc,ns,k,11+(0+(j:Int)),rfl,F.seq u.sq,u.len,⟨by omega,by lia⟩,⟨by exact hY _,by lia⟩,_,U rfl ⟨rfl,(show(0:Int)<9 by decide),_,U rfl ⟨rfl,?_⟩⟩⟩)));refine⟨l,by rw[b_,g8];lia,lf hj ⟨bM F Z,ag,e++[1+cy ns k (11+(0+(j:Int)))%9],by rw[gg];rfl,by rw[ga,m];rfl,λx r=>?_⟩⟩;rcases List.mem_append.mp r with z|z
    ·exact g x z
    ·rw[List.mem_singleton.mp z];lia
   ·rintro f R⟨F,l,e,rfl,m,g⟩;refine⟨D,U rfl (.inl ⟨aX.of l,λG S=>aq ?_⟩)⟩;have y:=aj (o:=.tup (e.map V.int)) F S;have v:aJ R G (.tup (e.map V.int)) G=some (.tup (e.map V.int)):=ag;generalize aJ R G (.tup (e.map V.int))=H3 at y v⊢;have bz:=aZ (cy ns k 10) (show(0:Int)<(M.p:Int)+1 by exact o_.mpr (n0 _));refine U rfl (rX (am.tseq y hb) (ak (k:=0) rfl) (U rfl (U rfl ⟨sc,ns,k,10,rfl,y.seq u.sq,u.len,⟨by omega,by lia⟩,⟨by decide,by decide⟩,U rfl (rX (aX.of (y _ _ J.pl)) (ak (k:=0) rfl) (r2 (r2 ⟨by show(0:Int)<(M.p:Int)+1;exact o_.mpr (n0 _),U rfl ⟨ls rfl,λdv I=>?_⟩⟩)))⟩)));have W:=aj (o:=.tup [.str "deal",.str t.nm,.int (cy ns k 10%((M.p:Int)+1)),.ref G]) (am.refl H3) I;exact q dv (.deal t _ e) _ _ (.of (y.trans W)) (bd.of ag) (.deal B ⟨bz.1,by lia⟩ (bd.of (W _ _ v)) (by exact m) λx r=>⟨(g x r).1,by have:=(g x r).2;lia⟩) (J.same (y.trans W)) ⟨by lia,λx r=>(g x r).2⟩ λz=>absurd z (lm h0)
  ·refine U rfl (rX hb (ak (k:=0) rfl) (U rfl (rX hb (ak (k:=1) rfl) (U rfl ⟨by exact hY _,by lia,λD Z=>?_⟩))));refine d6 (K:=K) (lo:=0) (n:=(t.arms.length:Int).toNat) (λj f H'=>am H H'/\H' D=some (.lst f)/\∃(e:Ob),f=e.map V.int/\e.length=j/\∀x∈e,0<=x) ⟨aj (am.refl _) Z,ag,[],rfl,rfl,λx r=>nomatch r⟩ ?_ ?_
   ·rintro j f R hj⟨F,l,e,rfl,m,g⟩;refine aq (jB (bD ?_));have b9:=aZ (cy ns k (11+(0+(j:Int)))) (show(0:Int)<(M.p:Int)/2+2 by exact o_.mpr (n0 _));refine U rfl (U rfl (U rfl (r2 ⟨sc,ns,k,11+(0+(j:Int)),rfl,F.seq u.sq,u.len,⟨by omega,by lia⟩,⟨by exact hY _,by lia⟩,U rfl (r2 ⟨(by show(0:Int)<(M.p:Int)/2+2;exact o_.mpr (n0 _)),?_⟩)⟩)));refine⟨l,by rw[b_,g8];lia,lf hj ⟨bM F Z,ag,e++[cy ns k (11+(0+(j:Int)))%((M.p:Int)/2+2)],by rw[gg];rfl,by rw[ga,m];rfl,λx r=>?_⟩⟩;rcases List.mem_append.mp r with z|z
    ·exact g x z
    ·rw[List.mem_singleton.mp z];exact b9.1
   ·rintro f R⟨F,l,e,rfl,m,g⟩;refine⟨D,U rfl (.inl ⟨aX.of l,λG S=>⟨ls rfl,λdv I=>?_⟩⟩)⟩;have y:=aj (o:=.tup (e.map V.int)) F S;have v:aJ R G (.tup (e.map V.int)) G=some (.tup (e.map V.int)):=ag;generalize aJ R G (.tup (e.map V.int))=H3 at y v I⊢;have W:=aj (o:=.tup [.str "share",.str t.nm,.ref G]) (am.refl H3) I;exact q dv (.share t e) _ _ (.of (y.trans W)) (bd.of ag) (.share B (bd.of (W _ _ v)) (by exact m) g) (J.same (y.trans W)) trivial λz=>absurd z (lm h0)
end
def tZ(F G:Prop)(hc:∀Q:Bool->Hp->Prop,(F->Q true H)->(G->Q false H)->c d H Q)(h1:F->∀N:St->Hp->Prop,t {D with nx:=N} d H)(h2:G->u D d H):CL (FK c t xv) u D d H:=hc _ (λf=>bD (h1 f _)) λg=>bX (h2 g)
def Al{c:Prop}[Decidable c]{Q:Bool->Hp->Prop}{H:Hp}(h1:c->Q true H)(h2:¬c->Q false H):Q (decide c) H:=by
 by_cases e:c
 ·rw[il e];exact h1 e
 ·rw[iA e];exact h2 e
def Me{te:TE}{g:TG}{u:TS}{D:lq}{c:St}(h1:∀Q:VK,(∀b,Q (.bl b) H)->te c H Q)(h2:∀b,g (.bl b) c H (u D)):CL (zq te g) u D c H:=h1 _ h2
inductive F6(K:N1)(vs:List V)(H:Hp)(Q:VK)(_E:XK):Prop|mk(sc:Addr)(ns:Ob)(M:bU)(A:zk)(c:Nat)(k:Int)(_:vs=[.ref sc,.ref A.pl,.int k])(_:ux K H sc ns M A c)(_:(0<=k/\k<=1000))(_:i9 K ns M A H Q)
section
def DU(T:Txt K mg a):aQ P w K mg base dB 6 a.wa.x a.wa.d ["_law_script","_law_plan_here","_law_k"] (F6 K):=by
 refine T.wa.ok jW λan A outer s H vs Q E F h=>?_
 ·obtain⟨R,ns,M,A,c,k,rfl,v,⟨k0,k1⟩,q0⟩:=h;refine⟨_,(af (bj 3 jW.nd (pc T.dP (cD T) F (ac (Y 0) (ac (Y 2) (ac ae O))))) (af (bj 4 jW.nd (aA bL (Y 3) ae)) (af (bj 5 jW.nd (pc T.qv (BT T) F (ac (aA aS (Y 4) ae) (ac (pc T.dP (cD T) F (ac (Y 0) (ac ae (ac ae O)))) O)))) (af (aL (PW.pt (fm (aD aT (au (aG K rfl) (by rfl) T.bo L2.aK (ac (gB K (Y 1) ae) O)) ae (aF _)) (dI (PW.pt (kL (aD aT (aA aS (Y 3) ae) ae (aF _)) (iw (aD x4 (au (aG K rfl) (by rfl) T.bo L2.aK (ac (gB K (Y 1) ae) O)) (au (qi rfl) (by rfl) T.D1 L2.uh (ac (aA bQ (gB K (Y 1) ae) ae) (ac ae O))) (aF _)))))))) (ah (az (pc T.gT (uV T) F (ac (Y 0) (ac (Y 1) O))))) aC) (af (bj 6 jW.nd (cr (bT x4 (Y 2) ae (aF _)) (dn (bT x4 (aA aS (Y 3) ae) ae (aF _))))) (af (aL (PW.pt (fm (aD aT (au (aG K rfl) (by rfl) T.bo L2.aK (ac (gB K (Y 1) ae) O)) ae (aF _)) (dI (PW.pt (kL (aD x4 (au (aG K rfl) (by rfl) T.bo L2.aK (ac (gB K (Y 1) ae) O)) ae (aF _)) (iw (PW.pt (fm (aM K rfl (Y 6) (λ_=>rfl)) (dI (aD aT (aA aS (Y 3) ae) ae (aF _))))))))))) (ah (az (pc T.gS (uU T) F (ac (Y 0) (ac (Y 1) (ac (Y 4) O)))))) aC) (af (aL (aD x4 (aA aS (Y 3) ae) ae (aF _)) (ah (az (pc T.qp (BQ T) F (ac (Y 0) (ac (Y 1) (ac (Y 2) (ac (Y 4) O))))))) aC) (af (bj 7 jW.nd (dg K (gB K (gB K (Y 1) ae) (aA aS (aA bL (Y 4) ae) (au (aG K rfl) (by rfl) T.bo L2.aK (ac (gB K (Y 1) ae) O)))) ae)) (af (aL (aD aT (aA aS (Y 3) ae) ae (aF _)) (ah (az (bK (ac aE (ac (gB K (gB K (Y 1) ae) (aA aS (Y 4) (au (aG K rfl) (by rfl) T.bo L2.aK (ac (gB K (Y 1) ae) O)))) (ac (aA aS (aA bL (Y 4) ae) (aA bQ (aA bL (gB K (Y 1) ae) ae) ae)) O)))))) aC) (af (aL (aD aT (aA aS (Y 3) ae) ae (aF _)) (ah (az (bK (ac (gB K (bu (ac aE (ac aE (ac aE O)))) (aA aS (Y 4) ae)) (ac (Y 7) O))))) aC) (af (aL (aD aT (aA aS (Y 3) ae) ae (aF _)) (ah (az (bK (ac (gB K (bu (ac aE (ac aE (ac aE (ac aE O))))) (aA aS (Y 4) ae)) (ac (Y 7) O))))) aC) (af (aL (aD aT (aA aS (Y 3) ae) ae (aF _)) (ah (az (bK (ac aE (ac (Y 5) (ac (Y 7) O)))))) aC) (ah (az (bK (ac aE (ac (Y 5) (ac (pc T.qu (BS T) F (ac (aA bL (Y 4) ae) O)) O)))))))))))))))))),?_⟩
  refine U rfl (U rfl ⟨R,ns,k,5,rfl,v.sq,v.len,⟨by omega,by lia⟩,⟨by decide,by decide⟩,aq ?_⟩);have x0:=(GI ns k 5).1;generalize cy ns k 5=x at x0⊢;refine U rfl (r2 ⟨⟨by decide,by decide⟩,aq ?_⟩);refine U rfl (r2 ⟨(show(0:Int)<7 by decide),U rfl ⟨R,ns,4,6,rfl,v.sq,v.len,⟨by decide,by decide⟩,⟨by decide,by decide⟩,x/16%7,cy ns 4 6,rfl,λg H1 s1 hg=>aq (qK ?_)⟩⟩);have J:=v.same s1;have q:=q0.same s1;clear v q0 s1;have i:=J.pl;have hp:=J.pn.pr.le;obtain⟨us,C,S⟩:=i.T;have aa:=Paired.length S;rw[show(iq M).length=M.trs.length from b_ _]at aa;have W:((hV M).map V.str).length=M.las.length:=by rw[b_];exact b_ _
  refine tZ (M.las.length<4/\M.las.length<M.p+1) (0<M.las.length) (λQ n r=>?_) (λf N=>?_) (λh0=>?_)
  ·refine U rfl (rX (aX.of i.pl) (ak (k:=2) rfl) ⟨_,M.las.length,rfl,.inl ⟨_,aX.of i.L,W.symm⟩,rfl,U rfl (kj (λe=>n ⟨by lia,by lia⟩) (λe=>?_))⟩);refine U rfl (r2 ⟨(show(0:Int)<16 by decide),rfl,U rfl (kj (λ_=>?_) (λ_=>r (by lia)))⟩);refine U rfl (rX (aX.of i.pl) (ak (k:=2) rfl) ⟨_,M.las.length,rfl,.inl ⟨_,aX.of i.L,W.symm⟩,U rfl (rX (aX.of i.pl) (ak (k:=0) rfl) (r2 ⟨(M.p:Int)+1,4,rfl,r2 (U rfl (Al (λf=>n ?_) (λ_=>r (by lia))))⟩))⟩)
   split at f<;>lia
  ·exact U rfl (U rfl ⟨R,ns,M,A,c,rfl,J,f.1,f.2,q⟩)
  refine Me (λQ h=>?_) (λeb=>aq ?_)
  ·refine U rfl (r2 (U rfl (iZ (λ_=>?_) (λ_=>h _))));exact U rfl (r2 ⟨(show(0:Int)<16 by decide),_,U rfl ⟨rfl,h _⟩⟩)
  refine tZ (M.trs.length<10) (0<M.trs.length) (λQ n r=>?_) (λf N=>?_) (λD=>?_)
  ·refine U rfl (rX (aX.of i.pl) (ak (k:=3) rfl) ⟨_,us.length,rfl,.inl ⟨_,aX.of C,rfl⟩,rfl,U rfl (kj (λe=>n (by lia)) (λe=>?_))⟩);have g0:0<M.trs.length:=by lia
   refine U rfl (rX (aX.of i.pl) (ak (k:=3) rfl) ⟨_,us.length,rfl,.inl ⟨_,aX.of C,rfl⟩,_,U rfl ⟨rfl,U rfl (iZ (λe=>?_) (λ_=>r g0))⟩⟩);have f:=n (by lia);refine U rfl ⟨eb,rfl,wN (λ_=>f) (λ_=>?_)⟩;exact U rfl (r2 ⟨(show(0:Int)<16 by decide),rfl,U rfl (Al (λ_=>f) (λ_=>r g0))⟩)
  ·exact U rfl (U rfl (U rfl ⟨R,ns,M,A,c,x/16,rfl,J,f,h0,q⟩))
  refine tZ True True (λQ n r=>?_) (λ_ N=>?_) (λ_=>?_)
  ·exact U rfl (r2 ⟨(show(0:Int)<16 by decide),_,U rfl ⟨rfl,U rfl (Al (λ_=>n trivial) (λ_=>r trivial))⟩⟩)
  ·exact U rfl (U rfl (U rfl (U rfl ⟨R,ns,M,A,c,k,x/16,rfl,J,⟨k0,k1⟩,D,q⟩)))
  obtain⟨t,b,y,ad,hb⟩:=J.tri C S (x/16/7) D;refine U rfl (rX (aX.of i.pl) (ak (k:=3) rfl) (U rfl (r2 ⟨⟨by decide,by decide⟩,U rfl (rX (aX.of i.pl) (ak (k:=3) rfl) ⟨_,us.length,rfl,.inl ⟨_,aX.of C,rfl⟩,_,U rfl ⟨rfl,by show(0:Int)<(us.length:Int);lia,A.T,_,_,U rfl ⟨rfl,aX.of C,ad,rX hb (ak (k:=0) rfl) (aq (qK ?_))⟩⟩⟩)⟩)));refine tZ True True (λQ n r=>?_) (λ_ N=>?_) (λ_=>?_)
  ·exact U rfl (r2 ⟨(show(0:Int)<16 by decide),rfl,U rfl (Al (λ_=>n trivial) (λ_=>r trivial))⟩)
  ·have ap:(hV M).length=M.las.length:=b_ _;have bl:=aZ (x/16) (show(0:Int)<((hV M).length:Int)by lia);have bz:=aZ (x/16/4) (show(0:Int)<(M.p:Int)/3+2 by exact o_.mpr (n0 _));obtain⟨nm,al,X⟩:=i3 bl.1 bl.2;obtain⟨l,hl,rfl⟩:=ig.mp al;refine U rfl (rX (aX.of i.pl) (ak (k:=2) rfl) (U rfl (U rfl (rX (aX.of i.pl) (ak (k:=2) rfl) ⟨_,(hV M).length,rfl,.inl ⟨_,aX.of i.L,by rw[b_]⟩,_,U rfl ⟨rfl,by show(0:Int)<((hV M).length:Int);lia,A.L,_,_,U rfl ⟨rfl,aX.of i.L,X,?_⟩⟩⟩))));refine U rfl (r2 ⟨⟨by decide,by decide⟩,U rfl (rX (aX.of i.pl) (ak (k:=0) rfl) (r2 ⟨⟨by decide,by decide⟩,_,U rfl ⟨rfl,r2 ⟨by show(0:Int)<(M.p:Int)/3+2;exact o_.mpr (n0 _),ls rfl,λB m=>?_⟩⟩⟩))⟩);have j:=aj (o:=.tup [.str "hold",.str l.nm,.int (x/16/4%((M.p:Int)/3+2))]) (am.refl H1) m;exact q B (.hold l _) _ _ (.of j) (bd.of ag) (.hold hl bz.1) (i.same j) trivial λz=>absurd z (lm D)
  refine tZ True True (λQ n r=>?_) (λ_ N=>?_) (λ_=>?_)
  ·exact U rfl (r2 ⟨(show(0:Int)<16 by decide),rfl,U rfl (Al (λ_=>n trivial) (λ_=>r trivial))⟩)
  ·refine⟨ls rfl,λl1 G=>?_⟩;refine gA G λZ u I=>?_;have bm:=aZ (x/16) (show(0:Int)<3 by decide);obtain⟨z,hz,X⟩:=i3 (zs:=["pause","go","go"]) bm.1 bm.2;refine U rfl (r2 ⟨(show(0:Int)<3 by decide),l1,_,_,U rfl ⟨rfl,aX.of I,X,U rfl ⟨ls rfl,λB m=>?_⟩⟩⟩);have j:=aj (o:=.tup [.str z,.str t.nm]) (am.refl Z) m;simp only[ot,m_,xn]at hz;rcases hz with rfl|rfl|rfl
   ·exact q B (.pause t true) _ _ (.of (u.trans j)) (bd.of ag) (.pause y) (i.same (u.trans j)) trivial λz=>absurd z (lm D)
   all_goals exact q B (.pause t false) _ _ (.of (u.trans j)) (bd.of ag) (.go y) (i.same (u.trans j)) trivial λz=>absurd z (lm D)
  refine tZ True True (λQ n r=>?_) (λ_ N=>?_) (λ_=>?_)
  ·exact U rfl (r2 ⟨(show(0:Int)<16 by decide),rfl,U rfl (Al (λ_=>n trivial) (λ_=>r trivial))⟩)
  ·refine⟨ls rfl,λl1 G=>?_⟩;refine gA G λZ u I=>?_;have bm:=aZ (x/16) (show(0:Int)<4 by decide);obtain⟨z,hz,X⟩:=i3 (zs:=["close","pause","go","go"]) bm.1 bm.2;refine U rfl (r2 ⟨(show(0:Int)<4 by decide),l1,_,_,U rfl ⟨rfl,aX.of I,X,U rfl ⟨ls rfl,λB m=>?_⟩⟩⟩);have j:=aj (o:=.tup [.str z,.str t.nm]) (am.refl Z) m;simp only[ot,m_,xn]at hz;rcases hz with rfl|rfl|rfl|rfl
   ·exact q B (.close t) _ _ (.of (u.trans j)) (bd.of ag) (.close y) (i.same (u.trans j)) trivial λz=>absurd z (lm D)
   ·exact q B (.pause t true) _ _ (.of (u.trans j)) (bd.of ag) (.pause y) (i.same (u.trans j)) trivial λz=>absurd z (lm D)
   all_goals exact q B (.pause t false) _ _ (.of (u.trans j)) (bd.of ag) (.go y) (i.same (u.trans j)) trivial λz=>absurd z (lm D)
  refine tZ True True (λQ n r=>?_) (λ_ N=>?_) (λ_=>?_)
  ·exact U rfl (r2 ⟨(show(0:Int)<16 by decide),rfl,U rfl (Al (λ_=>n trivial) (λ_=>r trivial))⟩)
  ·refine U rfl (U rfl ⟨ls rfl,λB m=>?_⟩);have j:=aj (o:=.tup [.str "bar",.str g,.str t.nm]) (am.refl H1) m;exact q B (.bar g t) _ _ (.of j) (bd.of ag) (.bar hg y) (i.same j) trivial λz=>absurd z (lm D)
  refine U rfl (U rfl (r2 ⟨⟨by decide,by decide⟩,x/16/7,rfl,λmt ms Z u hm h3 h4 h5=>⟨ls rfl,λB m=>?_⟩⟩));have j:=aj (o:=.tup [.str "visit",.str g,.ref mt]) (am.refl Z) m;exact q B (.visit g) _ _ (.of (u.trans j)) (bd.of ag) (.visit hg (hm.kp (.of j)) h3 h4 h5) (i.same (u.trans j)) trivial λz=>absurd z (lm D)
end
def ze.same{v:V}(s:am H H')(h:ze K H v):ze K H' v:=by obtain⟨T,ty,b⟩:=h;refine⟨T,?_,b⟩;generalize Value.type T=u at ty;cases ty with|non=>exact .non|bl x=>exact .bl x|int i=>exact .int i|str x=>exact .str x|flt x=>exact .flt x|lst e=>exact .lst (s _ _ e)|frz e=>exact .frz (s _ _ e)|tup e=>exact .tup (s _ _ e)|dK e=>exact .dK (s _ _ e)|dT e=>exact .dT (s _ _ e)|ins e h1 h2 h3 h4 h5=>exact .ins (s _ _ e) h1 h2 h3 h4 h5
theorem xg.same{v:V}(s:am H H')(h:xg K H v):xg K H' v:=h.imp (·.same s) id
def Mo(K:N1)(H:Hp)(d:Addr)(x:Str)(b:Bool):Prop:=(∃c:List (cu×V),H d=some (.dK c)/\(bw c (.inr x)).isSome=b)\/∃l:List Str,bd K H d (l.map V.str)/\mw (.str x) (l.map V.str)=b
inductive KI(K:N1)(U:Addr)(vs:List V)(H:Hp)(Q:VK)(E:XK):Prop|mk(v:V)(d:Addr)(_:vs=[v,.ref d])(_:((∃x b,v=.str x/\Wd x/\Mo K H d x b/\∀H',am H H'->(b=true->Q .non H')/\(b=false->E (.ref U) none H'))\/(xg K H v/\∀H',am H H'->E (.ref U) none H')))
inductive Dj(vs:List V)(H:Hp)(Q:VK)(_E:XK):Prop|mk(p n:Int)(_:vs=[.int p,.int n])(_:0<=p)(_:p<n)(_:Q .non H)
def Cy(K:N1)(H:Hp)(S:AS)(p:Int)(v:V):Prop:=(v=.non/\∀k,p∉S.pl k)\/∃x y,PyData.strOk x=true/\PyData.strOk y=true/\p∈S.pl (aV x y)/\cS K H (aV x y) v
def Cy.kp{S:AS}{p:Int}{v:V}(e:Kp H H')(h:Cy K H S p v):Cy K H' S p v:=h.imp id λ⟨x,y,b,c,h1,h2⟩=>⟨x,y,b,c,h1,eF e h2⟩
theorem cE.own{M:bU}{Z:ZS}{c i:Nat}{l:cP}{p:Int}(h:cE P w K a H M Z c)(hl:M.las[i]?=some l)(d:0<=p)(f:p<M.p):Cy K H l.S p ((bw (Z.ow i) (.inl p)).getD .non):=by have b:=h.ok.la l (e_ hl);obtain⟨_,⟨m,_,o⟩,r,_⟩:=h.g.tabs i l hl;have e:=o.2 p d f;cases j:bw (Z.ow i) (.inl p)with|none=>rw[j]at e;refine .inl ⟨rfl,λk z=>?_⟩;have:=(b.ok.in_ k p z).2.2;rw[<-e]at this;cases this|some v=>
  obtain⟨k,h1,h2⟩:=r p v d f j;rcases b.own k p h1 with rfl|⟨t,n,_,y,q,rfl⟩
  ·exact .inr ⟨_,_,by decide+kernel,by decide+kernel,h1,h2⟩
  ·exact .inr ⟨_,_,vb (h.ok.tr t n).wd,vb ((h.ok.tr t n).aw y q),h1,h2⟩
def zh(K:N1)(H:Hp)(v:V)(l:cP):Prop:=∃b,v=.ref b/\bd K H b [.str l.nm,.int l.sl]
def zh.kp(e:Kp H H'){c:List V}{ls:List cP}(h:Paired (zh K H) c ls):Paired (zh K H') c ls:=Paired.mapP h λ_ _ q=>q.imp λ_ q=>⟨q.1,e.tq q.2⟩
inductive Iz(P:N6)(w:World)(K:N1)(a:ic)(vs:List V)(H:Hp)(Q:VK)(_E:XK):Prop|mk(M:bU)(Z:ZS)(c i j:Nat)(l:cP)(t:dq)(z:Str)(_:vs=[.ref (Z.G .hh),.str t.nm,.str z])(_:cE P w K a H M Z c)(_:M.trs[j]?=some t)(_:M.las[i]?=some l)(_:l.nm=t.home)(_:∀(r:Addr)H',am H H'->H r=none->H' r=some (.lst ((l.S.pl (aV t.nm z)).map V.int))->Q (.ref r) H')
def uz(K:N1)(U:Addr)(H:Hp)(M:bU)(E:XK)(G:cP->dq->Str->Prop)(v y:V):Prop:=((xg K H v\/∃z,v=.str z/\Wd z/\z∉M.trs.map dq.nm)/\∀H',am H H'->E (.ref U) none H')\/∃(j:Nat)(t:dq),v=.str t.nm/\M.trs[j]?=some t/\((∃(i:Nat)(l:cP)(z:Str),y=.str z/\M.las[i]?=some l/\l.nm=t.home/\z∈t.arms/\G l t z)\/((xg K H y\/∃z,y=.str z/\Wd z/\z∉t.arms)/\∀H',am H H'->E (.ref U) none H'))
def Jz{z:Str}{c:N7}(h:z∉c):mw (.str z) (c.map V.str)=false:=by cases e:mw (.str z) (c.map V.str)with|false=>rfl|true=>unfold mw at e;obtain⟨v,d,e⟩:=Nc.mp e;obtain⟨u,b,rfl⟩:=ig.mp d;have e:(u==z)=true:=e;rw[eq_of_beq e]at b;exact absurd b h
def uz.mono{U:Addr}{M:bU}{E:XK}{G d:cP->dq->Str->Prop}{v y:V}(h:uz K U H M E G v y)(f:∀(i j:Nat)l t z,v=.str t.nm->M.trs[j]?=some t->M.las[i]?=some l->l.nm=t.home->G l t z->d l t z):uz K U H M E d v y:=h.imp id λ⟨j,t,a,b,c⟩=>⟨j,t,a,b,c.imp (λ⟨i,l,z,m,e,k,n,g⟩=>⟨i,l,z,m,e,k,n,f i j l t z a b e k g⟩) id⟩
inductive C3(P:N6)(w:World)(K:N1)(a:ic)(vs:List V)(H:Hp)(Q:VK)(E:XK):Prop|mk(M:bU)(Z:ZS)(c:Nat)(v y:V)(_:vs=[.ref (Z.G .hh),v,y])(_:cE P w K a H M Z c)(_:uz K a.mz H M E (λl t z=>∀(r:Addr)H',am H H'->H' r=some (.lst ((l.S.pl (aV t.nm z)).map V.int))->Q (.ref r) H') v y)
theorem uz.same{U:Addr}{H e:Hp}{M:bU}{E:XK}{G:cP->dq->Str->Prop}{v y:V}(s:am H e)(h:uz K U H M E G v y):uz K U e M E G v y:=h.imp (λ⟨a,q⟩=>⟨a.imp (·.same s) id,λH' d=>q H' (s.trans d)⟩) λ⟨j,t,a,b,c⟩=>⟨j,t,a,b,c.imp id λ⟨a,q⟩=>⟨a.imp (·.same s) id,λH' d=>q H' (s.trans d)⟩⟩
def y4(M:bU)(l:cP)(t:dq)(z:Str)(d:cP)(c:dq)(e:Str):Int:=if t.home=c.home then(((l.S.pl (aV t.nm z)).filter λq=>decide (q∈d.S.pl (aV c.nm e))).length:Int)*M.p else((l.S.pl (aV t.nm z)).length:Int)*(d.S.pl (aV c.nm e)).length
inductive IM(P:N6)(w:World)(K:N1)(a:ic)(vs:List V)(H:Hp)(Q:VK)(E:XK):Prop|mk(M:bU)(Z:ZS)(c:Nat)(v y v' y':V)(_:vs=[.ref (Z.G .hh),v,y,v',y'])(_:cE P w K a H M Z c)(_:uz K a.mz H M E (λl t z=>uz K a.mz H M E (λl' t' z'=>∀H',am H H'->Q (.int (y4 M l t z l' t' z')) H') v' y') v y)
inductive By(P:N6)(w:World)(K:N1)(a:ic)(vs:List V)(H:Hp)(Q:VK)(_E:XK):Prop|mk(M:bU)(Z:ZS)(c j:Nat)(t:dq)(_:vs=[.ref (Z.G .hh),.str t.nm])(_:cE P w K a H M Z c)(_:M.trs[j]?=some t)(_:∀H',am H H'->Q (.str t.home) H')
inductive C0(P:N6)(w:World)(K:N1)(a:ic)(vs:List V)(H:Hp)(Q:VK)(_E:XK):Prop|mk(M:bU)(Z:ZS)(c:Nat)(_:vs=[.ref (Z.G .hh)])(_:cE P w K a H M Z c)(_:Q (.int M.p) H)
inductive F0(P:N6)(w:World)(K:N1)(a:ic)(vs:List V)(H:Hp)(Q:VK)(_E:XK):Prop|mk(M:bU)(Z:ZS)(c i:Nat)(l:cP)(p:Int)(_:vs=[.ref (Z.G .hh),.str l.nm,.int p])(_:cE P w K a H M Z c)(_:M.las[i]?=some l)(_:0<=p)(_:p<M.p)(_:∀(v:V)H',am H H'->Cy K H' l.S p v->Q v H')
inductive Bx(P:N6)(w:World)(K:N1)(a:ic)(vs:List V)(H:Hp)(Q:VK)(_E:XK):Prop|mk(M:bU)(Z:ZS)(c:Nat)(_:vs=[.ref (Z.G .hh)])(_:cE P w K a H M Z c)(_:∀(r:Addr)(us:List V)H',am H H'->H' r=some (.lst us)->Paired (zh K H') us M.las->Q (.ref r) H')
section
def gm(T:Txt K mg a):aQ P w K mg base (qy P w) 3 a.bv.x a.bv.d ["thing","names"] (KI K a.mz):=by
 refine T.bv.okE sL λi A outer s H j Q E g h=>?_
 ·obtain⟨v,d,rfl,h⟩:=h;refine⟨_,(ah (aL (PW.pt (fm (bV (aM K rfl (pc T.dZ (gH T) g (ac (Y 0) O)) (λ_=>rfl))) (dI (nz (BN K rfl (cz g) (Y 0) (Y 1)) rfl)))) (ah (tG T.t7 rfl T.vD rfl tF (ac aE O))) aC)),?_⟩;rcases h with⟨x,b,rfl,h1,h2,q⟩|⟨h1,q⟩
  ·refine U rfl ⟨V.str x,rfl,.inl ⟨x,rfl,h1,λe c=>(U rfl (bX ?_))⟩⟩;refine U rfl (U rfl ?_);rcases h2 with⟨f,h2,h3⟩|⟨l,h2,h3⟩
   ·refine .inl (rG (bw f (.inr x)) (dR.k (k:=.inr x) (c _ _ h2)) (U rfl ?_));rw[h3];cases b with|true=>exact bX ((q e c).1 rfl)|false=>exact bD ⟨ls rfl,(q e c).2 rfl⟩
   ·refine .inr ⟨d,U rfl ⟨.inr (am.tseq c h2),rfl,mh l,U rfl ?_⟩⟩;rw[h3];cases b with|true=>exact bX ((q e c).1 rfl)|false=>exact bD ⟨ls rfl,(q e c).2 rfl⟩
  ·exact U rfl ⟨v,rfl,.inr ⟨h1,λe c=>(U rfl (bD ⟨ls rfl,q e c⟩))⟩⟩
def tP(T:Txt K mg a):aQ P w K mg base dB 3 a.fV.x a.fV.d ["thing","prime"] Dj:=by
 refine T.fV.ok sJ λb A outer s H e Q E c h=>?_
 ·obtain⟨z,p,rfl,h0,h1,q⟩:=h;refine⟨_,(ah (aL (PW.pt (fm (bV (aM K rfl (pc T.eS (fQ T) c (ac (Y 0) O)) (λ_=>rfl))) (dI (aD DQ (Y 0) (Y 1) (aF _))))) (ah cx) aC)),?_⟩;refine U rfl ⟨z,rfl,h0,U rfl (bX ?_)⟩;refine U rfl (U rfl ⟨z,p,rfl,rfl,U rfl (iZ (λh=>absurd h (by omega)) (λ_=>q))⟩)
def nD(T:Txt K mg a):aQ P w K mg base dB 2 a.cQ.x a.cQ.d ["self","trial","arm"] (Iz P w K a):=by
 refine T.cQ.ok nq λJ A outer s H V Q E n h=>?_
 ·obtain⟨M,Z,c,i,j,l,t,z,rfl,e,hj,hl,hh,q⟩:=h;refine⟨_,(ah (az (bh (aI K rfl (dG (cz n) (aI K rfl (Y 0)) (aI K rfl (dG (cz n) (aI K rfl (Y 0)) (Y 1) (λ_ _=>rfl))) (λ_ _=>rfl))) T.bp T.bg.m ((dX (P:=P) (w:=w) T).mono (by decide)) n T.bg.b .nil bq (ac (bK (ac (Y 1) (ac (Y 2) O))) O)))),?_⟩;have F:=e.g.house;have u:=e.g.trial hj;obtain⟨m,f,v⟩:=e.g.tab hl;obtain⟨L,y⟩:=f.ins;have o:=e.ok.lget (Z:=Z) hl;rw[hh]at o;refine gG F T.aB T.aP rfl rfl ?_;refine gG F T.aB T.aO rfl rfl (U rfl (rG (.ref (Z.G (.tr j))) (by rw[<-e.ok.tget (Z:=Z) hj];exact dR.k (k:=.inr t.nm) e.g.tris) ?_));refine rF u T.bf T.fE rfl (rG (.ref (Z.G (.lo i))) (by rw[<-o];exact dR.k (k:=.inr t.home) e.g.lays) ?_);refine rF (e.g.layer hl) T.bO T.dN rfl (rM y rfl ?_);refine U rfl (U rfl ⟨ls rfl,λI B=>?_⟩);refine gA B λW C N=>?_;refine⟨Z.G (.tb i),Z.G (.od i),Z.G (.td i),M.p,Z.ow i,Z.tk i,m,aV t.nm z,.ref I,rfl,f.same C,⟨I,rfl,bd.of N⟩,λr R S n D=>q r R (C.trans S) (C.free n) ?_⟩;rw[<-v.1];exact D
def k9(T:Txt K mg a):aQ P w K mg base (qy P w) 4 a.cU.x a.cU.d ["self","trial","arm"] (C3 P w K a):=by
 refine T.cU.okE qZ λL A outer s H S Q E p h=>?_
 ·obtain⟨M,Z,c,v,y,rfl,n,h⟩:=h;refine⟨_,(af (aR (bB ((gm T).mono (by decide)) p rfl T.bv.m T.bv.f.kp T.bv.b .nil de (ac (Y 1) (ac (aI K rfl (Y 0)) O)))) (af (aR (bB ((gm T).mono (by decide)) p rfl T.bv.m T.bv.f.kp T.bv.b .nil de (ac (Y 2) (ac (aI K rfl (dG (cz p) (aI K rfl (Y 0)) (Y 1) (λ_ _=>rfl))) O)))) (ah (az (bh (Y 0) T.aB T.cQ.m ((nD (P:=P) (w:=w) T).mono (by decide)) p T.cQ.b .nil bq (ac (Y 1) (ac (Y 2) O))))))),?_⟩
  have F:=n.g.house;refine U rfl (gG F T.aB T.aO rfl rfl ⟨v,Z.G .tn,rfl,?_⟩);rcases h with⟨h|⟨z,rfl,h,hz⟩,q⟩|⟨j,t,rfl,hj,h⟩
  ·exact .inr ⟨h,q⟩
  ·exact .inl ⟨_,false,rfl,h,.inl ⟨_,n.g.tris,by rw[kh hz];rfl⟩,λI e=>⟨λz=>(nomatch z),λ_=>q I e⟩⟩
  have u:=n.ok.tr t (e_ hj);have J:=n.ok.tget (Z:=Z) hj;refine .inl ⟨_,true,rfl,u.wd,.inl ⟨_,n.g.tris,by rw[J];rfl⟩,λI e=>⟨λ_=>?_,λz=>(nomatch z)⟩⟩;obtain⟨B,-,-⟩:=n.g.trs j t hj;refine U rfl (gG (e _ _ F) T.aB T.aO rfl rfl (U rfl (rG (.ref (Z.G (.tr j))) (by rw[<-J];exact dR.k (k:=.inr t.nm) (e _ _ n.g.tris)) ?_)));refine rF (e _ _ (n.g.trial hj)) T.bf T.fF rfl ⟨y,Z.ar j,rfl,?_⟩;rcases h with⟨i,l,z,rfl,hl,hh,hz,q⟩|⟨h|⟨z,rfl,h,hz⟩,q⟩
  ·refine .inl ⟨_,true,rfl,u.aw z hz,.inr ⟨_,am.tseq e B,EH hz⟩,λD C=>⟨λ_=>?_,λz=>(nomatch z)⟩⟩;have o:=e.trans C;exact lj (o _ _ F) rfl rfl (U rfl (U rfl ⟨M,Z,c,i,j,l,t,z,rfl,n.same o,hj,hl,hh,λr N R _ p=>q r N (o.trans R) p⟩))
  ·exact .inr ⟨h.same e,λD C=>q D (e.trans C)⟩
  ·exact .inl ⟨_,false,rfl,h,.inr ⟨_,am.tseq e B,Jz hz⟩,λD C=>⟨λz=>(nomatch z),λ_=>q D (e.trans C)⟩⟩
def iX(T:Txt K mg a):aQ P w K mg base dB 1 a.cL.x a.cL.d ["self"] (C0 P w K a):=by
 refine T.cL.ok sR λb A outer s H f Q E i h=>?_
 ·obtain⟨M,Z,c,rfl,e,q⟩:=h;refine⟨_,(ah (az (aI K rfl (Y 0)))),?_⟩;exact gG e.g.house T.aB T.bW rfl rfl q
def gp(T:Txt K mg a):aQ P w K mg base (qy P w) 4 a.bI.x a.bI.d ["self","trial"] (By P w K a):=by
 refine T.bI.okE oh λr A outer s H v Q E n h=>?_
 ·obtain⟨M,Z,c,j,t,rfl,e,hj,q⟩:=h;refine⟨_,(af (aR (bB ((gm T).mono (by decide)) n rfl T.bv.m T.bv.f.kp T.bv.b .nil de (ac (Y 1) (ac (aI K rfl (Y 0)) O)))) (ah (az (aI K rfl (dG (cz n) (aI K rfl (Y 0)) (Y 1) (λ_ _=>rfl)))))),?_⟩
  have o:=e.g.house;have l:=e.ok.tr t (e_ hj);have p:=e.ok.tget (Z:=Z) hj;refine U rfl (gG o T.aB T.aO rfl rfl ⟨.str t.nm,Z.G .tn,rfl,.inl ⟨_,true,rfl,l.wd,.inl ⟨_,e.g.tris,by rw[p];rfl⟩,λu i=>⟨λ_=>?_,λz=>(nomatch z)⟩⟩⟩);refine gG (i _ _ o) T.aB T.aO rfl rfl (U rfl (rG (.ref (Z.G (.tr j))) (by rw[<-p];exact dR.k (k:=.inr t.nm) (i _ _ e.g.tris)) ?_));exact rF (i _ _ (e.g.trial hj)) T.bf T.fE rfl (q u i)
def jo(T:Txt K mg a):aQ P w K mg base (qy P w) 5 a.bH.x a.bH.d ["house","trial","arm","other","there"] (IM P w K a):=by
 refine T.bH.okE gh λay A outer s H vs Q E I h=>?_
 ·obtain⟨M,Z,c,v,y,v',y',rfl,u,h⟩:=h;refine⟨_,(af (bj 5 gh.nd (bh (Y 0) T.aB T.cU.m ((k9 (P:=P) (w:=w) T).mono (by decide)) I T.cU.b .nil de (ac (Y 1) (ac (Y 2) O)))) (af (nA (i:=6) gh.nd rfl (.inr rfl) (bh (Y 0) T.aB T.cU.m ((k9 (P:=P) (w:=w) T).mono (by decide)) I T.cU.b .nil de (ac (Y 3) (ac (Y 4) O)))) (af (aL (aD aT (bh (Y 0) T.aB T.bI.m ((gp (P:=P) (w:=w) T).mono (by decide)) I T.bI.b .nil de (ac (Y 1) O)) (bh (Y 0) T.aB T.bI.m ((gp (P:=P) (w:=w) T).mono (by decide)) I T.bI.b .nil de (ac (Y 3) O)) (aF _)) (ah (az (aA eR (au (aG K rfl) (by rfl) T.bo L2.aK (ac (rT gQ ["place"] [] [7] (ai gE) (cb 7) (eA K rfl (Y 5)) (λcl C s₀ H₀ ex=>⟨(oI gQ ["place"] 7),(oG (aD (nB K rfl) (Y 7) (Y 6) (by with_unfolding_all rfl))),(Y 7)⟩)) O)) (kc (Y 0) T.aB T.cL.m ((iX (P:=P) (w:=w) T).mono (by decide)) I T.cL.b .nil bq)))) aC) (ah (az (aA eR (au (aG K rfl) (by rfl) T.bo L2.aK (ac (Y 5) O)) (au (aG K rfl) (by rfl) T.bo L2.aK (ac (Y 6) O)))))))),?_⟩
  have hI:=u.g.house;have hp:=u.ok.p;refine lj hI rfl rfl (U rfl (U rfl ⟨M,Z,c,v,y,rfl,u,h.mono λi j l t z ev hj hl hh q r H1 s1 I=>aq (qK ?_)⟩));refine lj (s1 _ _ hI) rfl rfl (U rfl (U rfl ⟨M,Z,c,v',y',rfl,u.same s1,(q.same s1).mono λi' j' J L z' aa ad al a0 q2 r' H2 s2 an=>aq (qK ?_)⟩));subst ev aa;have N:=s1.trans s2;have ap:=s2 _ _ I;have hL:=u.ok.la l (e_ hl);have R:=u.ok.la J (e_ al);refine lj (N _ _ hI) rfl rfl (U rfl ⟨M,Z,c,j,t,rfl,u.same N,hj,λH3 s3=>?_⟩);have W:=N.trans s3;refine lj (W _ _ hI) rfl rfl (U rfl ⟨M,Z,c,j',L,rfl,u.same W,ad,λH4 s4=>?_⟩);have B:=W.trans s4;have X:=s4 _ _ (s3 _ _ ap);have G:=s4 _ _ (s3 _ _ an);unfold y4 at q2;refine⟨rfl,U rfl (iZ (λe=>?_) (λe=>?_))⟩
  ·rw[gn (V.str.inj e)]at q2;have as:(l.S.pl (aV t.nm z)).length<=M.p:=oT (hL.ok.nd _) λx F=>⟨(hL.ok.in_ _ x F).1,(hL.ok.in_ _ x F).2.1⟩;refine U rfl ⟨r,rfl,⟨_,aX.of X⟩,λD hD=>?_⟩;refine mx (K:=K) (a:=r) (xs:=(l.S.pl (aV t.nm z)).map V.int) (λk f H'=>am H4 H'/\H' D=some (.lst f)/\f=(((l.S.pl (aV t.nm z)).take k).filter λq=>decide (q∈J.S.pl (aV L.nm z'))).map V.int) ⟨aj (am.refl _) hD,ag,rfl⟩ (λk f H' _ h=>aX.of (h.1 _ _ X)) ?_ ?_
   ·rintro k x f H5 F⟨s5,o,rfl⟩;have hk:=(d_.mp F).1;rw[f_]at F;obtain⟨n,hn,rfl⟩:=Option.map_eq_some_iff.mp F;refine aq ?_;refine U rfl (U rfl ⟨r',U rfl ⟨.inl (aX.of (s5 _ _ G)),rfl,kR _,U rfl ?_⟩⟩);show if(if false=true then _ else mw (.int n) _)=true then _ else _
    rw[ge hA,wO]
    by_cases hq:n∈J.S.pl (aV L.nm z')
    ·rw[il hq];have ax:=pw (λq=>decide (q∈J.S.pl (aV L.nm z'))) ((l.S.pl (aV t.nm z)).take k);rw[ji]at ax;exact bD (U rfl ⟨o,by rw[b_,g8];omega,lf hk ⟨bM s5 hD,ag,by rw[cT hn,E_,gg,M_ (p:=λq=>decide (q∈J.S.pl (aV L.nm z'))) (il hq)];rfl⟩⟩)
    ·rw[iA hq];exact bX (lf hk ⟨s5,o,by rw[cT hn,E_,Na (by rw[iA hq];decide),List.filter_nil,qr]⟩)
   ·rintro f H5⟨s5,o,rfl⟩;rw[b_,hH (eN _)]at o;exact⟨_,U rfl ⟨.inl ⟨_,aX.of o,by rw[b_]⟩,lj (s5 _ _ (B _ _ hI)) rfl rfl ⟨M,Z,c,rfl,u.same (B.trans s5),_,U rfl ⟨rfl,.inr ⟨by omega,by omega⟩,q2 _ (B.trans s5)⟩⟩⟩⟩
  ·rw[ge λy=>e (by rw[y])]at q2;have as:(J.S.pl (aV L.nm z')).length<=M.p:=oT (R.ok.nd _) λx F=>⟨(R.ok.in_ _ x F).1,(R.ok.in_ _ x F).2.1⟩;exact qK (U rfl ⟨_,(l.S.pl (aV t.nm z)).length,rfl,.inl ⟨_,aX.of X,by rw[b_]⟩,U rfl ⟨_,(J.S.pl (aV L.nm z')).length,rfl,.inl ⟨_,aX.of G,by rw[b_]⟩,_,U rfl ⟨rfl,.inr ⟨by omega,by omega⟩,q2 _ B⟩⟩⟩)
def tV(T:Txt K mg a):aQ P w K mg base (qy P w) 4 a.eZ.x a.eZ.d ["self","layer","place"] (F0 P w K a):=by
 refine T.eZ.okE sU λC A outer s H L Q E r h=>?_
 ·obtain⟨M,Z,c,i,l,p,rfl,n,hl,v,y,q⟩:=h;refine⟨_,(af (aR (bB ((gm T).mono (by decide)) r rfl T.bv.m T.bv.f.kp T.bv.b .nil de (ac (Y 1) (ac (aI K rfl (Y 0)) O)))) (af (aR (pc T.fV (tP T) r (ac (Y 2) (ac (aI K rfl (Y 0)) O)))) (ah (az (bh (aI K rfl (dG (cz r) (aI K rfl (Y 0)) (Y 1) (λ_ _=>rfl))) T.bp T.cf.m ((jq (P:=P) (w:=w) T).mono (by decide)) r T.cf.b .nil bq (ac (Y 2) O)))))),?_⟩
  have t:=n.g.house;have B:=n.ok.lget (Z:=Z) hl;have D:=n.ok.la l (e_ hl);refine U rfl (gG t T.aB T.aP rfl rfl ⟨.str l.nm,Z.G .ln,rfl,.inl ⟨_,true,rfl,D.wd,.inl ⟨_,n.g.lays,by rw[B];rfl⟩,λF o=>⟨λ_=>?_,λz=>(nomatch z)⟩⟩⟩);have j:=n.same o;obtain⟨m,e,I⟩:=j.g.tab hl;obtain⟨J,u⟩:=e.ins;refine U rfl (gG (o _ _ t) T.aB T.bW rfl rfl ⟨p,M.p,rfl,v,y,?_⟩);refine gG (o _ _ t) T.aB T.aP rfl rfl (U rfl (rG (.ref (Z.G (.lo i))) (by rw[<-B];exact dR.k (k:=.inr l.nm) (o _ _ n.g.lays)) ?_));exact rF (j.g.layer hl) T.bO T.dN rfl (rM u rfl (U rfl ⟨Z.G (.tb i),Z.G (.od i),Z.G (.td i),M.p,Z.ow i,Z.tk i,m,p,rfl,e,q _ F o (j.own hl v y)⟩))
def rh(T:Txt K mg a):aQ P w K mg base dB 1 a.eh.x a.eh.d ["self"] (Bx P w K a):=by
 refine T.eh.ok q8 λan A outer s H vs Q E hr h=>?_
 ·obtain⟨M,Z,c,rfl,I,q⟩:=h;refine⟨_,(ah (az (DM (P:=P) (w:=w) (rT ["self"] ["name","layer"] [] [1,2] (ai iU) (Ad _ 1 2) (xV (P:=P) (w:=w) (aI K rfl (Y 0))) (λcl C s₀ H₀ ex=>⟨(iD K rfl rfl (ca (oI ["self"] ["name","layer"] 1) (ca (oI ["self"] ["name","layer"] 2) iC))),cF,(bK (ac (Y 1) (ac (aI K rfl (Y 2)) O)))⟩))))),?_⟩
  have ap:=I.ok.l4;have p:=I.g.lays;refine gG I.g.house T.aB T.aP rfl rfl ⟨Z.G .ln,U rfl ⟨p,λep=>λD J=>?_⟩⟩;have nd:Z.G .ln≠D:=λz=>by rw[<-z,ag]at J;cases J
  have t:H D=none:=by rw[ao (mu nd)]at J;exact J
  refine wT (n:=M.las.length) (λk f v=>(∀b o,H b=some o->b≠Z.G .ln->v b=some o)/\v (Z.G .ln)=some (dE P w (Z.G .ln) (ju (M.las.map cP.nm) λi=>.ref (Z.G (.lo i))) ep)/\v D=some (.lst f)/\Paired (zh K v) f (M.las.take k)) ⟨λb o e n=>by rw[ao (aH e t),ao n];exact e,by rw[ao nd,ag],ag,.nil⟩ (λk f v L h=>⟨h.2.1,by rw[iE,b_];exact L⟩) ?_ ?_
  ·rintro k f N x R L⟨S,j,m,l⟩⟨T1,kk,vv,W,rfl,rfl,y⟩;have hl:=fx L;rw[wF,f_,hl]at y;obtain⟨rfl,rfl⟩:=MC (ir y);refine gA W λR B X=>?_;have X:R T1=some (.tup [.str (M.las[k]).nm,.ref (Z.G (.lo k))]):=X;have aa:rJ P w K a H R M Z c:=⟨I,λb o e n=>B _ _ (S b o e n)⟩;refine⟨T1,U rfl ⟨bd.of X,rfl,_,U rfl (aq ⟨_,U rfl (aq ⟨rfl,jB (bD ?_)⟩)⟩)⟩⟩;have ad:=aa.at_ (r:=.lo k) (by simp only[cont,hl];rfl) (by simp);refine U rfl (gG ad T.bO T.gt rfl rfl ⟨ls rfl,λT6 al=>?_⟩);show aJ R T6 (.tup [.str (M.las[k]).nm,.int (M.las[k]).sl]) D=some (.lst f)/\_;refine gA al λH6 V e6=>?_;have F:=V _ _ (B _ _ m);have kp:Kp H6 (aJ H6 D (.lst (f++[.ref T6]))):=.lst F;have as:f.length=k:=by have:=Paired.length l;rw[ji]at this;lia
   refine⟨F,by rw[g8];lia,lf L ⟨λb o e n=>by rw[ao (aH e t)];exact V _ _ (B _ _ (S b o e n)),by rw[ao nd];exact V _ _ (B _ _ j),ag,?_⟩⟩;rw[cT hl];exact Paired.snoc (zh.kp ((Kp.trans (.of B) (.of V)).trans kp) l) ⟨T6,rfl,kp.tq (bd.of e6)⟩
  ·rintro f N⟨S,j,m,l⟩;rw[hH (eN _)]at l;refine⟨⟨j,by rw[iE,b_];exact eN _⟩,Z.G .ln,_,ep,j,?_⟩;have sF:am H (aJ N (Z.G .ln) (.dK (ju (M.las.map cP.nm) λi=>.ref (Z.G (.lo i))))):=λb o e=>by
    by_cases z:b=Z.G .ln
    ·rw[z,p]at e;rw[z,ag];exact e
    ·rw[ao z];exact S b o e z
   have kp:Kp N (aJ N (Z.G .ln) (.dK (ju (M.las.map cP.nm) λi=>.ref (Z.G (.lo i))))):=⟨λu xs e=>by rw[ao λz=>by rw[z,j]at e;cases e];exact e,λu o⟨o',e⟩=>⟨o',by rw[ao λz=>by rw[z,j]at e;cases e];exact e⟩⟩;exact q D f _ sF (by rw[ao (mu nd)];exact m) (zh.kp kp l)
end
def kg(h:H b=some o)(n:H b=none):False:=by rw[h]at n;cases n
def Js(c:H o=some x)(h1:∀d,x≠.tup d)(h2:∀y z,x≠.frz y z)(f:∀b ob,H b=some ob->b≠o->H' b=some ob):Kp H H':=⟨λu d e=>f _ _ e λz=>(by rw[z,c]at e;exact h1 _ (ir e)),λu y⟨g,e⟩=>⟨g,f _ _ e λz=>by rw[z,c]at e;exact h2 _ _ (ir e)⟩⟩
section
variable{P:N6}{w:World}{K:N1}{a:ic}{F H g E D:Hp}{M p:bU}{Z j:ZS}{ns:Ob}{A:zk}{dd C:Addr}{c:Nat}{t s:List (cu×V)}{ls B:N7}{I v:List (Str×Nat)}{d:Dd}{f:List V}
def bF.ntup(h:bF P w K a H M Z)(L:jb M Z b):(∀f,H b≠some (.tup f))/\∀x y,H b≠some (.frz x y):=by
 have lst:∀l f,H l=some (.lst f)->(∀N,H l≠some (.tup N))/\∀x y,H l≠some (.frz x y):=λl f e=>by rw[e];exact⟨λ_ z=>(nomatch z),λ_ _ z=>(nomatch z)⟩
 rcases L with⟨r,O,rfl⟩|⟨i,hi,x,k,e⟩|⟨x,k,e⟩
 ·obtain⟨o,q⟩:=ml P w a Z O;have im:=(h.imm (H':=λb=>if b=Z.G r then none else H b) q λb o e n=>by show(if b=Z.G r then none else H b)=_;rw[ge n];exact e).kp;refine⟨λf e=>?_,λx y e=>?_⟩
  ·have:=im.tp _ _ e;rw[gn rfl]at this;cases this
  ·obtain⟨_,this⟩:=im.fz _ _ ⟨_,e⟩;rw[gn rfl]at this;cases this
 ·obtain⟨_,⟨m,q,_⟩,_⟩:=h.tabs i _ (fx hi);obtain⟨l,f,u,J⟩:=q.ex x k;rw[u]at e;cases e;exact lst _ _ J
 ·obtain⟨l,f,u,J⟩:=h.came.ex x k;rw[u]at e;cases e;exact lst _ _ J
def bF.stp(h:bF P w K a H M Z)(st:gz H M Z g p j):Kp H g:=⟨λu f e=>st.fr _ _ e λz=>(h.ntup z).1 _ e,λu o⟨b,e⟩=>⟨b,st.fr _ _ e λz=>(h.ntup z).2 _ _ e⟩⟩
def gz.nf(st:gz H M Z g p j)(e:H b=some o)(n:¬jb M Z b):¬jb p j b:=λz=>(st.fp b z).elim n (kg e)
end
def Lx(z:Int):Prop:=∀d:Int,2<=d->d<z->z%d≠0
def aU(p s x y:Int):Int:=if s=p then y else(x+s*y)%p
def ky{p a b:Int}(d:0<=a)(a1:a<p)(e:0<=b)(b1:b<p)(h:p∣a-b):a=b:=by
 obtain⟨c,hc⟩:=h;rcases(by omega:c<=-1\/c=0\/1<=c)with q|q|q
 ·have:=vu q (show(0:Int)<=p by omega);rw[Int.mul_neg,MX]at this;lia
 ·rw[q,Int.mul_zero]at hc;lia
 ·have:=vu q (show(0:Int)<=p by omega);rw[MX]at this;lia
def D8{p a b:Int}(d:0<=b)(b1:b<p)(h:p∣a-b):a%p=b:=by
 have c:=aZ a (show 0<p by omega);refine ky c.1 c.2 d b1 ?_;have e:a%p-b=(a-b)-p*(a/p):=by have:=Nr a p;lia
 rw[e];exact v8 h (L_ _ _)
def pb(p a:Int):p∣a-a%p:=⟨a/p,by have:=Nr a p;omega⟩
def fM{p a b:Int}(h:a%p=b):p∣a-b:=h▸pb p a
def EE{p n f r:Int}(e:0<r)(h:p∣f*n-r):p∣f*(p-p/r)%p*n-p%r:=by
 have b:f*(p-p/r)%p*n-p%r=(f*(p-p/r)*n-p%r)-(f*(p-p/r)-f*(p-p/r)%p)*n:=by rw[MD];lia
 rw[b];refine v8 ?_ (MB (pb p _) (L_ _ _));have c:p%r=p-r*(p/r):=by have:=Nr p r;lia
 have d:f*(p-p/r)*n-p%r=p*(f*n-1)-(f*n-r)*(p/r):=by
  rw[c,MW f p (p/r),MD (f*p) (f*(p/r)) n,MW p (f*n) 1,MD (f*n) r (p/r),MX];have a1:f*p*n=p*(f*n):=by rw[NK f p,Int.mul_assoc]
  have g:f*(p/r)*n=f*n*(p/r):=Int.mul_right_comm ..;lia
 rw[d];exact v8 (L_ _ _) (MB h (L_ _ _))
structure Mj(p s a t b x y:Int):Prop where
 x0:0<=x
 x1:x<p
 y0:0<=y
 y1:y<p
 one:aU p s x y=a
 two:aU p t x y=b
 only:∀x' y',0<=x'->x'<p->0<=y'->y'<p->aU p s x' y'=a->aU p t x' y'=b->x'=x/\y'=y
def oH{p s a x y:Int}(c:0<=a)(a1:a<p)(d:s≠p)(f:x=(a-s*y)%p):aU p s x y=a:=by
 unfold aU;rw[ge d];refine D8 c a1 ?_;have e:x+s*y-a=-(a-s*y-(a-s*y)%p):=by rw[f];omega
 rw[e];exact(Int.dvd_neg).mpr (pb _ _)
def wc{p s a x y c:Int}(g:s≠p)(h:aU p s x y=a)(h':aU p s c y=a)(x0:0<=x)(x1:x<p)(d:0<=c)(f:c<p):c=x:=by
 unfold aU at h h';rw[ge g]at h h';refine ky d f x0 x1 ?_;have e:c-x=(c+s*y-a)-(x+s*y-a):=by omega
 rw[e];exact v8 (fM h') (fM h)
def FE{p s a t b x y i:Int}(c:s≠p)(d:t≠p)(f:0<=b)(b1:b<p)(hi:p∣i*(s-t)-1)(g:y=(a-b)*i%p)(h:aU p s x y=a):aU p t x y=b:=by
 unfold aU at h⊢;rw[ge c]at h;rw[ge d];refine D8 f b1 ?_;have k:p∣(s-t)*y-(a-b):=by
  have e:(s-t)*y-(a-b)=(a-b)*(i*(s-t)-1)-(s-t)*((a-b)*i-(a-b)*i%p):=by
   rw[g,MW (a-b),MW (s-t),MX];have a1:(a-b)*(i*(s-t))=(s-t)*((a-b)*i):=by rw[<-Int.mul_assoc,NK]
   lia
  rw[e];exact v8 (MB hi (NR _ _)) (MB (pb _ _) (NR _ _))
 have e:x+t*y-b=(x+s*y-a)-((s-t)*y-(a-b)):=by rw[MD];lia
 rw[e];exact v8 (fM h) k
def Ib{p s a t b x y g c i:Int}(l:s≠p)(m:t≠p)(hi:p∣i*(s-t)-1)(h1:aU p s x y=a)(h2:aU p t x y=b)(d:aU p s g c=a)(f:aU p t g c=b)(y0:0<=y)(y1:y<p)(h:0<=c)(j:c<p):c=y:=by
 unfold aU at h1 h2 d f;rw[ge l]at h1 d;rw[ge m]at h2 f;refine ky h j y0 y1 ?_;have k:p∣(s-t)*(c-y):=by
  have e:(s-t)*(c-y)=((g+s*c-a)-(x+s*y-a))-((g+t*c-b)-(x+t*y-b)):=by rw[MW (s-t),MD,MD];lia
  rw[e];exact v8 (v8 (fM d) (fM h1)) (v8 (fM f) (fM h2))
 have e:c-y=i*((s-t)*(c-y))-(i*(s-t)-1)*(c-y):=by
  have n:(i*(s-t)-1)*(c-y)=i*(s-t)*(c-y)-(c-y):=by rw[MD,Int.one_mul]
  have o:i*((s-t)*(c-y))=i*(s-t)*(c-y):=(Int.mul_assoc ..).symm;lia
 rw[e];exact v8 (MB k (NR _ _)) (MB hi (L_ _ _))
def gc(g:Nat->Int):Nat->Int|0=>0|n+1=>gc g n+g n
theorem gC{g h:Nat->Int}:∀n,(∀i,i<n->g i=h i)->gc g n=gc h n|0,_=>rfl|n+1,e=>by rw[gc,gc,gC n (λi hi=>e i (by omega)),e n (by omega)]
def jR{g:Nat->Int}(n:Nat)(e:∀i,i<n->g i=0):gc g n=0:=by induction n with|zero=>rfl|succ n b=>rw[gc,b (λi hi=>e i (by omega)),e n (by omega)];rfl
def vi{g:Nat->Int}(n:Nat)(e:∀i,i<n->g i=1):gc g n=n:=by induction n with|zero=>rfl|succ n b=>rw[gc,b (λi hi=>e i (by omega)),e n (by omega)];omega
def nR{g:Nat->Int}(n m:Nat)(hm:m<n)(e:∀i,i<n->g i=if i=m then 1 else 0):gc g n=1:=by induction n with|zero=>omega|succ n b=>
  rw[gc,e n (by omega)]
  by_cases h:n=m
  ·rw[gn h,jR n λi hi=>by rw[e i (by omega),ge (by omega)]];rfl
  ·rw[ge h,b (by omega) λi hi=>e i (by omega)];rfl
theorem nS{g h:Nat->Int}:∀n,gc (λi=>g i+h i) n=gc g n+gc h n|0=>rfl|n+1=>by rw[gc,gc,gc,nS n];lia
theorem vh{g:Nat->Nat->Int}(m:Nat):∀n,gc (λi=>gc (g i) m) n=gc (λj=>gc (λi=>g i j) n) m|0=>by show(0:Int)=_;exact(jR m λ_ _=>rfl).symm|n+1=>by rw[gc,vh m n,<-nS];exact gC m λi _=>rfl
def CA(c:Prop)[Decidable c]:Int:=if c then 1 else 0
def Jy{p n:Int}(c:Lx p):∀(k:Nat)(f r:Int),r.toNat=k->0<r->r<p->p∣f*n-r->∃i,p∣i*n-1:=by
 intro k
 induction k using Nat.strongRecOn with|_ k d=>
  intro f r h b e hd
  by_cases h1:r=1
  ·exact⟨f,h1▸hd⟩
  ·have j:=aZ p b;have g:=c r (by omega) e;exact d (p%r).toNat (by omega) _ (p%r) rfl (by omega) (by omega) (EE b hd)
def KS{p s a t b:Int}(E:2<=p)(A:Lx p)(B:0<=s)(F:s<=p)(u:0<=a)(a1:a<p)(C:0<=t)(G:t<=p)(r:0<=b)(b1:b<p)(m:s≠t):∃x y,Mj p s a t b x y:=by
 by_cases h1:s=p
 ·have v:t≠p:=λe=>m (h1.trans e.symm);have c:=aZ (b-t*a) (show 0<p by omega);refine⟨_,_,c.1,c.2,u,a1,by unfold aU;rw[gn h1],oH r b1 v rfl,λz q d f j k h l=>?_⟩;have o:q=a:=by unfold aU at h;rw[gn h1]at h;exact h
  subst o;exact⟨wc v (oH r b1 v rfl) l c.1 c.2 d f,rfl⟩
 ·by_cases h2:t=p
  ·have c:=aZ (a-s*b) (show 0<p by omega);have one:aU p s ((a-s*b)%p) b=a:=oH u a1 h1 rfl;refine⟨_,_,c.1,c.2,r,b1,one,by unfold aU;rw[gn h2],λz q d f j k h l=>?_⟩;have o:q=b:=by unfold aU at l;rw[gn h2]at l;exact l
   subst o;exact⟨wc h1 one h c.1 c.2 d f,rfl⟩
  ·have hn:(s-t)%p≠0:=λe=>m (ky (p:=p) B (by omega) C (by omega) (Int.dvd_of_emod_eq_zero e));have D:=aZ (s-t) (show 0<p by omega);obtain⟨i,hi⟩:=Jy (n:=s-t) A _ 1 ((s-t)%p) rfl (by omega) D.2 (by rw[Int.one_mul];exact pb _ _);have g:=aZ ((a-b)*i) (show 0<p by omega);have c:=aZ (a-s*((a-b)*i%p)) (show 0<p by omega);have one:aU p s ((a-s*((a-b)*i%p))%p) ((a-b)*i%p)=a:=oH u a1 h1 rfl;have two:=FE h1 h2 r b1 hi rfl one;refine⟨_,_,c.1,c.2,g.1,g.2,one,two,λz q d f j k h l=>?_⟩;have o:=Ib h1 h2 hi one two h l g.1 g.2 j k;subst o;exact⟨wc h1 one h c.1 c.2 d f,rfl⟩
def xU{p s x y:Int}(c:0<p)(y0:0<=y)(y1:y<p):0<=aU p s x y/\aU p s x y<p:=by
 unfold aU
 split
 ·exact⟨y0,y1⟩
 ·exact aZ _ c
def JN{p a b c d:Int}(g:0<=b)(b1:b<p)(i:0<=d)(j:d<p)(h:a*p+b=c*p+d):a=c/\b=d:=by
 have f:b=d:=ky g b1 i j ⟨c-a,by rw[MW,NK p c,NK p a];omega⟩;subst f;have e:a*p=c*p:=by omega
 exact⟨Int.eq_of_mul_eq_mul_right (by omega) e,rfl⟩
def HG(p s t:Int)(x y:Nat):Int:=aU p s x y*p+aU p t x y
def Kn(p:Nat)(s t k:Int):Int:=gc (λx=>gc (λy=>CA (HG p s t x y=k)) p) p
def tK{p:Nat}{s t a b:Int}{x y:Nat}(d:y<p)(c:0<=b)(b1:b<p):HG p s t x y=a*p+b↔aU p s x y=a/\aU p t x y=b:=by
 have h2:=xU (s:=t) (x:=x) (show(0:Int)<p by omega) (show(0:Int)<=y by omega) (show(y:Int)<p by omega)
 constructor
 ·intro e;exact JN h2.1 h2.2 c b1 e
 ·rintro⟨rfl,rfl⟩;rfl
def oY{c d:Prop}[Decidable c][Decidable d](h:c↔d):CA c=CA d:=by
 unfold CA
 by_cases q:c
 ·rw[gn q,gn (h.mp q)]
 ·rw[ge q,ge (λz=>q (h.mpr z))]
def Bn{p:Nat}{s t a b:Int}(z:2<=p)(l:Lx p)(m:0<=s)(o:s<=p)(r:0<=a)(a1:a<p)(u:0<=t)(v:t<=p)(c:0<=b)(b1:b<p)(d:s≠t):Kn p s t (a*p+b)=1:=by
 obtain⟨x,y,P⟩:=KS (p:=p) (by omega) l m o r a1 u v c b1 d;obtain⟨h,rfl⟩:∃n:Nat,x=n:=⟨x.toNat,by have:=P.x0;omega⟩;obtain⟨k,rfl⟩:∃n:Nat,y=n:=⟨y.toNat,by have:=P.y0;omega⟩;have A:=P.x1;have B:=P.y1;refine nR p h (by omega) λi hi=>?_
 by_cases e:i=h
 ·rw[gn e];refine nR p k (by omega) λj hj=>?_;refine oY ?_;rw[tK hj c b1]
  constructor
  ·rintro⟨f,g⟩;have:=(P.only i j (by omega) (by omega) (by omega) (by omega) f g).2;lia
  ·intro q;rw[e,q];exact⟨P.one,P.two⟩
 ·rw[ge e];refine jR p λj hj=>?_;unfold CA;rw[ge];rw[tK hj c b1];rintro⟨f,g⟩;have:=(P.only i j (by omega) (by omega) (by omega) (by omega) f g).1;lia
inductive C4(vs:List V)(H:Hp)(Q:VK)(_E:XK):Prop|mk(p s x y:Int)(_:vs=[.int p,.int s,.int x,.int y])(_:(2<=p/\p<=997))(_:(0<=s/\s<=p))(_:(0<=x/\x<p))(_:(0<=y/\y<p))(_:Q (.int (aU p s x y)) H)
def Fq(K:N1)(H:Hp)(S:AS)(n:Nat)(c:List V):Prop:=c.length=n/\∀(q:Nat)(v:V),c[q]?=some v->Cy K H S q v
inductive Bv(P:N6)(w:World)(K:N1)(a:ic)(vs:List V)(H:Hp)(Q:VK)(_E:XK):Prop|mk(M:bU)(Z:ZS)(c i:Nat)(l:cP)(_:vs=[.ref (Z.G .hh),.str l.nm])(_:cE P w K a H M Z c)(_:M.las[i]?=some l)(_:∀(r:Addr)(us:List V)H',am H H'->H r=none->H' r=some (.lst us)->Fq K H' l.S M.p us->Q (.ref r) H')
def zc(M:bU):List (Str×Str):=M.trs.flatMap λt=>t.arms.map λz=>(t.nm,z)
def nO(K:N1)(H:Hp)(u:V)(y:Str×Str):Prop:=∃b,u=.ref b/\bd K H b [.str y.1,.str y.2]
def nO.kp(e:Kp H H'){c:List V}{d:List (Str×Str)}(h:Paired (nO K H) c d):Paired (nO K H') c d:=Paired.mapP h λ_ _ q=>q.imp λ_ q=>⟨q.1,e.tq q.2⟩
inductive Gi(K:N1)(vs:List V)(H:Hp)(Q:VK)(_E:XK):Prop|mk(sc:Addr)(ns:Ob)(M:bU)(A:zk)(c:Nat)(_:vs=[.ref sc,.ref A.pl])(_:ux K H sc ns M A c)(_:∀(r:Addr)(us:List V)H',am H H'->H' r=some (.lst us)->Paired (nO K H') us (zc M)->Q (.ref r) H')
def pk(K:N1)(H:Hp)(M:bU)(v y:V):Prop:=(xg K H v\/∃z,v=.str z/\Wd z/\z∉M.trs.map dq.nm)\/∃(j:Nat)(t:dq),v=.str t.nm/\M.trs[j]?=some t/\(xg K H y\/∃z,y=.str z/\Wd z/\z∉t.arms)
def Bd(M:bU)(v y:V):Prop:=∃(i j:Nat)(l:cP)(t:dq)(z:Str),v=.str t.nm/\y=.str z/\M.trs[j]?=some t/\M.las[i]?=some l/\l.nm=t.home/\z∈t.arms
def Bd.q{U:Addr}{M:bU}{E:XK}{G:cP->dq->Str->Prop}{v y:V}(h:Bd M v y)(g:∀l t z,G l t z):uz K U H M E G v y:=let⟨i,j,l,t,z,b,c,hj,hl,hh,hz⟩:=h
 .inr ⟨j,t,b,hj,.inl ⟨i,l,z,c,hl,hh,hz,g l t z⟩⟩
def pk.q{U:Addr}{M:bU}{E:XK}{G:cP->dq->Str->Prop}{v y:V}(h:pk K H M v y)(g:∀H',am H H'->E (.ref U) none H'):uz K U H M E G v y:=h.imp (λh=>⟨h,g⟩) λ⟨j,t,e,hj,h⟩=>⟨j,t,e,hj,.inr ⟨h,g⟩⟩
inductive Bt(P:N6)(w:World)(K:N1)(a:ic)(vs:List V)(H:Hp)(Q:VK)(_E:XK):Prop|mk(M:bU)(Z:ZS)(c:Nat)(b b':Addr)(v y v' y':V)(_:vs=[.ref (Z.G .hh),.ref b,.ref b'])(_:cE P w K a H M Z c)(_:bd K H b [v,y])(_:bd K H b' [v',y'])(_:(pk K H M v y\/(Bd M v y/\pk K H M v' y')))(_:∀H',am H H'->Q (.bl true) H')
def Fo(K:N1)(P:N6)(w:World)(H:Hp)(d:Addr)(M:bU):Prop:=∃b:List eX,H d=some (dM P w d b)/\dQ K H b/\∀l∈M.las,eE b (.inl (.inr l.nm))=some (.int l.sl)
def Fo.same{d:Addr}{M:bU}(s:am H H')(h:Fo K P w H d M):Fo K P w H' d M:=let⟨b,h1,h2,h3⟩:=h
 ⟨b,s _ _ h1,λx c=>eF (.of s) (h2 x c),h3⟩
def AL{a b:Str}(h1:PyData.strOk a=true)(h2:PyData.strOk b=true):SeqAt.shaped (.tuple [.str a,.str b])=true:=by simp[SeqAt.shaped,PyData.canLay0,PyData.canLayAll0,PyData.depth,PyData.depthAll,h1,h2]
def DN{a b c d:Str}:PyData.eqv (.tuple [.str a,.str b]) (.tuple [.str c,.str d])=decide (aV a b=aV c d):=by
 by_cases e:aV a b=aV c d
 ·rw[il e];injection e with e;injection e with g f;injection f with f;injection g with g;injection f with f;rw[g,f];exact xq [c,d]
 ·rw[iA e];cases h:PyData.eqv (.tuple [.str a,.str b]) (.tuple [.str c,.str d])with|false=>rfl|true=>have h:[a,b]=[c,d]:=xo h;injection h with h1 h2;injection h2 with h2;exact absurd (by rw[h1,h2]) e
def nL.same{d:Addr}{H H' c:Hp}(h:nL d H H')(s:am c H)(n:c d=none):am c H':=λb o e=>h b o (s b o e) (aH e n)
def wx(p:Nat)(s:Int)(L:Ob)(x n:Nat):List Bool:=(List.range n).map λ(y:Nat)=>decide (aU (p:Int) s (x:Int) (y:Int)∈L)
def j8(p:Nat)(s:Int)(L:Ob)(n:Nat):List Bool:=(List.range n).flatMap λx=>wx p s L x p
theorem iI(p:Nat)(s:Int)(L:Ob):∀n,(j8 p s L n).length=n*p|0=>by rw[Nat.zero_mul];rfl|n+1=>by have b:=iI p s L n;unfold j8 at b⊢;rw[s_,D2,ga,b,w_,Nat.succ_mul];unfold wx;rw[b_,md]
inductive FT(P:N6)(w:World)(K:N1)(a:ic)(vs:List V)(H:Hp)(Q:VK)(_E:XK):Prop|mk(M:bU)(Z:ZS)(c i j:Nat)(l:cP)(t:dq)(z:Str)(sd b:Addr)(_:vs=[.ref (Z.G .hh),.ref sd,.ref b,.int M.p])(_:cE P w K a H M Z c)(_:M.p<=13)(_:Fo K P w H sd M)(_:bd K H b [.str t.nm,.str z])(_:M.trs[j]?=some t)(_:M.las[i]?=some l)(_:l.nm=t.home)(_:z∈t.arms)(_:∀(r:Addr)H',am H H'->H r=none->H' r=some (.lst ((j8 M.p l.sl (l.S.pl (aV t.nm z)) M.p).map V.bl))->Q (.ref r) H')
section
def BR(T:Txt K mg a):aQ P w K mg base dB 1 a.qt.x a.qt.d ["_law_p","_law_slope","_law_x","_law_y"] C4:=by
 refine T.qt.ok BH λb A outer s H c Q E e h=>?_
 ·obtain⟨p,f,x,y,rfl,g,i,j,k,q⟩:=h;refine⟨_,(af (aL (aD aT (Y 1) (Y 0) (aF _)) (ah (az (Y 3))) aC) (ah (az (aA aS (aA bQ (Y 2) (aA eR (Y 1) (Y 3))) (Y 0))))),?_⟩
  unfold aU at q;refine U rfl (U rfl ⟨rfl,U rfl (iZ (λh=>?_) (λh=>?_))⟩)
  ·rw[gn (V.int.inj h)]at q;exact U rfl q
  ·rw[ge λz=>h (by rw[z])]at q
   walk_at "a"
   refine⟨.inl ⟨by omega,by omega⟩,?_⟩
   walk_at "a"
   exact q
def zM(T:Txt K mg a):aQ P w K mg base dB 5 a.mB.x a.mB.d ["_law_house","_law_name"] (Bv P w K a):=by
 refine T.mB.ok zz λN A outer s H V Q E I h=>?_
 ·obtain⟨M,Z,c,i,l,rfl,t,hl,q⟩:=h;refine⟨_,(ah (az (rT qo ["_law_place_here"] [] [2] (ai pJ) (cb 2) (cC rfl T.dA (ac (kc (Y 0) T.aB T.cL.m ((iX (P:=P) (w:=w) T).mono (by decide)) I T.cL.b .nil bq) O)) (λcl C s₀ H₀ ex=>⟨(oI qo ["_law_place_here"] 2),cF,(bh (Y 0) T.aB T.eZ.m ((tV (P:=P) (w:=w) T).mono (by decide)) I T.eZ.b .nil wA (ac (Y 1) (ac (Y 2) O)))⟩)))),?_⟩
  have W:=t.ok.p;refine lj t.g.house rfl rfl ⟨M,Z,c,rfl,t,(M.p:Int),rfl,by omega,by omega,λD F=>?_⟩;refine d6 (K:=K) (lo:=0) (n:=(M.p:Int).toNat) (λj e H'=>am H H'/\H' D=some (.lst e)/\Fq K H' l.S j e) ⟨aj (am.refl _) F,ag,rfl,λq v z=>(nomatch z)⟩ ?_ ?_
  ·rintro j e J hj⟨y,f,o⟩;rw[show(0:Int)+(j:Int)=((j:Nat):Int)by lia];refine aq (jB (bD ?_));refine lj (y _ _ t.g.house) rfl rfl (U rfl (U rfl ⟨M,Z,c,i,l,(j:Int),rfl,t.same y,hl,by omega,by omega,λv L G R=>?_⟩));have B:=G _ _ f;have kp:Kp L (aJ L D (.lst (e++[v]))):=.lst B;refine⟨B,by rw[o.1,g8];omega,lf hj ⟨bM (y.trans G) F,ag,by rw[ga,o.1];rfl,λk u r=>?_⟩⟩
   by_cases z:k<e.length
   ·rw[pu z]at r;exact((o.2 k u r).kp (.of G)).kp kp
   ·rw[t0 (A_ z)]at r;have h1:=(d_.mp r).1;have h1:k-e.length<1:=h1;have h2:=o.1;obtain rfl:k=j:=by omega
    rw[h2,Nat.sub_self]at r;obtain rfl:=ir r;exact R.kp kp
  ·rintro e J⟨y,f,o⟩;rw[kt]at o;exact q D e J y F f o
def qI(T:Txt K mg a):aQ P w K mg base dB 6 a.i6.x a.i6.d ["_law_house","_law_one","_law_other"] (Bt P w K a):=by
 refine T.i6.ok xM λj A outer s H t Q E l h=>?_
 ·obtain⟨M,Z,c,b,u,v,y,n,o,rfl,p,g,e,h,q⟩:=h;refine⟨_,(af (IW rfl rfl T.t7 rfl T.vD (λE i z B r=>(AY (Hk ((jo (P:=P) (w:=w) T).mono (by decide)) l rfl T.bH.m T.bH.f.kp T.bH.b .nil r (ac (Y 0) (ac (dg K (Y 1) ae) (ac (dg K (Y 1) ae) (ac (dg K (Y 2) ae) (ac (dg K (Y 2) ae) O)))))))) (λC=>(ah (az dS)))) (ah (az dS))),?_⟩
  refine U rfl (U rfl (rX g (ak (k:=0) rfl) (U rfl (rX g (ak (k:=1) rfl) (U rfl (rX e (ak (k:=0) rfl) (U rfl (rX e (ak (k:=1) rfl) ⟨M,Z,c,v,y,n,o,rfl,p,?_⟩))))))));rcases h with h|⟨h,h'⟩
  ·exact h.q λH' s=>⟨rfl,q H' s⟩
  ·exact h.q λ_ _ _=>h'.q λH' s=>⟨rfl,q H' s⟩
def yj(T:Txt K mg a):aQ P w K mg base dB 4 a.uv.x a.uv.d ["_law_script","_law_plan_here"] (Gi K):=by
 refine T.uv.ok lF λal A outer s H vs Q E u h=>?_
 ·obtain⟨sc,ns,M,A,c,rfl,B,q⟩:=h;refine⟨_,(af (bj 2 lF.nd (bu O)) (af (dJ k_ rfl (eA K rfl (gB K (Y 1) ae)) (iD K rfl rfl (ca (wz (i:=3) lF.nd rfl (.inr rfl)) (ca (qF 4 lF.nd) iC))) (ah (bj 2 lF.nd (aA wC (Y 2) (rT xh ["_law_j"] [] [5] (ai ww) (cb 5) (cC rfl T.dA (ac (Y 4) O)) (λcl C s₀ H₀ ex=>⟨(oI xh ["_law_j"] 5),cF,(bK (ac (Y 3) (ac (pc T.px (oM T) u (ac (Y 5) (ac (pc T.dP (cD T) u (ac (Y 0) (ac ae (ac ae O)))) O))) O)))⟩)))))) (ah (az (Y 2))))),?_⟩
  have hP:=B.pl;obtain⟨us,X,I⟩:=hP.T;refine⟨ls rfl,λr0 Z=>aq (qK ?_)⟩;refine gA Z λH0 J e0=>?_;have l:=J _ _ X;have L:=Paired.length I;rw[show(iq M).length=M.trs.length from b_ _]at L;have an:=B.ok.tc;refine U rfl (rX (aX.of (J _ _ hP.pl)) (ak (k:=3) rfl) ⟨A.T,rfl,⟨_,aX.of l⟩,?_⟩);refine kx (xs:=us) (λk V H'=>am H0 H'/\(∃r g v3 v4,H' r=some (.lst g)/\g.length<=4*k/\Paired (nO K H') g ((M.trs.take k).flatMap λt=>t.arms.map λz=>(t.nm,z))/\V=[some (.ref sc),some (.ref A.pl),some (.ref r),v3,v4])) ⟨am.refl _,r0,[],_,_,e0,j1 _,.nil,rfl⟩ (λk V H' _ h=>aX.of (h.1 _ _ l)) ?_ ?_
  ·rintro k v V H1 hv⟨N,r,g,v3,v4,u,aa,W,rfl⟩;have hk:=(d_.mp hv).1;obtain⟨y,hy,b,rfl,hb⟩:=Paired.at_ I k v hv;unfold iq at hy;rw[f_]at hy;obtain⟨t,ht,rfl⟩:=Option.map_eq_some_iff.mp hy;have ha:=(B.pn.tn k t ht).2;have a4:=(B.ok.tr t (e_ ht)).a4;refine⟨b,U rfl ⟨am.tseq (J.trans N) hb,rfl,_,U rfl (aq ⟨_,U rfl (aq ⟨rfl,?_⟩)⟩)⟩⟩;refine U rfl (U rfl (U rfl ⟨by omega,by omega,λD hD=>?_⟩));refine d6 (K:=K) (lo:=0) (n:=(t.arms.length:Int).toNat) (λj e H'=>am H1 H'/\H' D=some (.lst e)/\e.length<=j/\Paired (nO K H') e ((t.arms.take j).map λz=>(t.nm,z))) ⟨aj (am.refl _) hD,ag,j1 _,.nil⟩ ?_ ?_
   ·rintro j e H2 hj⟨F,m,p,f⟩;rw[show(0:Int)+(j:Int)=((j:Nat):Int)by lia];refine aq (jB (bD ?_));refine U rfl (U rfl (U rfl ⟨sc,ns,3,4,rfl,((J.trans N).trans F).seq B.sq,B.len,⟨by decide,by decide⟩,⟨by decide,by decide⟩,(j:Int),cy ns 3 4,rfl,λH3 G=>⟨ls rfl,λT1 ad=>?_⟩⟩));show aJ H3 T1 (.tup [.str t.nm,.str (cV j (cy ns 3 4))]) D=some (.lst e)/\_;refine gA ad λH4 s4 e4=>?_;have R:=s4 _ _ (G _ _ m);have kp:Kp H4 (aJ H4 D (.lst (e++[.ref T1]))):=.lst R;refine⟨R,by rw[g8];omega,lf hj ⟨bM ((F.trans G).trans s4) hD,ag,by rw[ga];exact tA p,?_⟩⟩;have ej:t.arms[j]?=some (cV (j:Int) (cy ns 3 4)):=by rw[ha];unfold fq;rw[f_,Ny (by omega)];rfl
    rw[cT ej,gg];exact Paired.snoc (nO.kp ((Kp.of (G.trans s4)).trans kp) f) ⟨T1,rfl,kp.tq (bd.of e4)⟩
   ·rintro e H2⟨F,m,p,f⟩;rw[kt]at p f;rw[hH (eN _)]at f;refine⟨r,D,g,e,rfl,rfl,F _ _ u,m,by rw[g8];omega,λr' S=>aq ⟨aj (N.trans F) S,r',g++e,_,_,ag,by rw[ga];omega,?_,rfl⟩⟩;have G:=aj (o:=.lst (g++e)) (am.refl H2) S;rw[cT ht,D2,w_];exact zE (nO.kp (.of (F.trans G)) W) (nO.kp (.of G) f)
  ·rintro V H1⟨N,r,g,v3,v4,u,aa,W,rfl⟩;rw[L,hH (eN _)]at W;exact U rfl (q r g H1 (J.trans N) u W)
def vx(T:Txt K mg a):aQ P w K mg base dB 6 a.nN.x a.nN.d ["_law_house","_law_slopes","_law_arm","_law_p"] (FT P w K a):=by
 refine T.nN.ok iH λa8 A outer s H vs Q E u h=>?_
 ·obtain⟨M,Z,c,i,j,l,t,z,sd,b,rfl,W,hp,hS,hb,hj,hl,hh,hz,q⟩:=h;have aa:=W.ok.tr t (e_ hj);refine⟨_,(af (bj 4 iH.nd (bh (Y 0) T.aB T.bI.m ((gp (P:=P) (w:=w) T).mono (by decide)) u T.bI.b .nil wA (ac (dg K (Y 2) ae) O))) (af (bj 5 iH.nd (pc T.mB (zM T) u (ac (Y 0) (ac (Y 4) O)))) (af (bj 6 iH.nd (bu O)) (af (dJ k_ rfl (cC rfl T.dA (ac (Y 3) O)) (qF 7 iH.nd) (ah (dJ k_ rfl (cC rfl T.dA (ac (Y 3) O)) (qF 8 iH.nd) (ah (aR (ii K rfl PySem.F.plainAttrs_list PySem.F.slot_list_append PySem.F.type_list_append eI (Y 6) (ac (bT (AM K rfl (JB u)) (gB K (Y 5) (pc T.qt (BR T) u (ac (Y 3) (ac (Jb (P:=P) (w:=w) K rfl (cz u) (Y 1) (Y 4) (λ_ _=>rfl)) (ac (Y 7) (ac (Y 8) O)))))) (Y 2) (aF _)) O))))))) (ah (az (Y 6))))))),?_⟩
  have hI:=W.g.house;have h2:=W.ok.p;have hL:=W.ok.la l (e_ hl);have ap:=hL.sl;refine lj hI rfl rfl (U rfl (rX hb (ak (k:=0) rfl) ⟨M,Z,c,j,t,rfl,W,hj,λH1 s1=>aq (qK ?_)⟩));rw[<-hh];refine U rfl (U rfl ⟨M,Z,c,i,l,rfl,W.same s1,hl,λro vs H2 s2 a7 D ho=>aq (qK ⟨ls rfl,λr u=>aq (qK ?_)⟩)⟩);have ad:=s1.trans s2;refine gA u λH3 s3 e3=>?_;have al:=ad.trans s3;have I:H r=none:=ad.free u;have as:ro≠r:=λz=>by rw[z,u]at D;cases D
  refine U rfl (U rfl ⟨by omega,by omega,?_⟩);refine t5 (lo:=0) (n:=(M.p:Int).toNat) (λx J H'=>nL r H3 H'/\H' r=some (.lst ((j8 M.p l.sl (l.S.pl (aV t.nm z)) x).map V.bl))/\(FC λv7 L=>J=[some (.ref (Z.G .hh)),some (.ref sd),some (.ref b),some (.int M.p),some (.str l.nm),some (.ref ro),some (.ref r),v7,L])) ⟨λ_ _ e _=>e,e3,_,_,rfl⟩ ?_ ?_
  ·rintro x J H4 hx⟨o4,C,v7,L,rfl⟩N R B hN;rw[show(0:Int)+(x:Int)=((x:Nat):Int)by omega];rw[kt]at hx;refine aq (U rfl (U rfl ⟨by omega,by omega,?_⟩));refine t5 (lo:=0) (n:=(M.p:Int).toNat) (λy J H'=>nL r H3 H'/\H' r=some (.lst ((j8 M.p l.sl (l.S.pl (aV t.nm z)) x++wx M.p l.sl (l.S.pl (aV t.nm z)) x y).map V.bl))/\∃L,J=[some (.ref (Z.G .hh)),some (.ref sd),some (.ref b),some (.int M.p),some (.str l.nm),some (.ref ro),some (.ref r),some (.int (x:Nat)),L]) ⟨o4,by rw[show wx M.p l.sl (l.S.pl (aV t.nm z)) x 0=[]from rfl,qr];exact C,_,rfl⟩ ?_ ?_
   ·rintro y J H5 hy⟨X,f,L,rfl⟩N R B hN;rw[show(0:Int)+(y:Int)=((y:Nat):Int)by omega];rw[kt]at hy;have hq:=xU (p:=M.p) (s:=l.sl) (x:=(x:Int)) (y:=(y:Int)) (by omega) (by omega) (by omega);have an:=X.same al I;obtain⟨xs,ax,ay,a0⟩:=hS.same an;have a2:=am.tseq an hb;refine aq ?_;refine U rfl ⟨.inl ⟨rfl,_,aX.of f⟩,U rfl (U rfl (U rfl (U rfl ⟨sd,xs,.inl (.inr l.nm),.int l.sl,rfl,ax,ay,rfl,a0 l (e_ hl),U rfl (U rfl ⟨(M.p:Int),l.sl,(x:Int),(y:Int),rfl,⟨by omega,by omega⟩,ap,⟨by omega,by omega⟩,⟨by omega,by omega⟩,?_⟩)⟩)))⟩;obtain⟨n,hn⟩:∃n:Nat,aU M.p l.sl x y=n:=⟨(aU M.p l.sl x y).toNat,by omega⟩;rw[hn]at hq⊢;obtain⟨v,hv⟩:∃v,vs[n]?=some v:=⟨_,fx (by rw[ho.1];omega)⟩;obtain⟨d,a3,a5,a6⟩:∃d,Cz K H5 v d/\SeqAt.shaped d=true/\PyData.eqv d (.tuple [.str t.nm,.str z])=decide ((n:Int)∈l.S.pl (aV t.nm z)):=by
     rcases(ho.2 n v hv).kp ((Kp.of s3).trans (Js e3 (λ_ z=>(nomatch z)) (λ_ _ z=>(nomatch z)) X))with⟨rfl,h⟩|⟨x',y',k1,k2,h1,b',rfl,h2⟩
     ·exact⟨.none,.non,rfl,(iA (h _)).symm⟩
     ·refine⟨_,.tup h2 (.cons (.str _) (.cons (.str _) .nil)),AL k1 k2,?_⟩;rw[DN];exact decide_eq_decide.mpr ⟨λe=>by rw[<-e];exact h1,λe=>hL.ok.dj _ _ _ h1 e⟩
    refine⟨ro,vs,n,v,rfl,rfl,aX.of (X _ _ (s3 _ _ D) as),ak hv,U rfl ⟨d,.tuple [.str t.nm,.str z],a3,.tup a2 (.cons (.str _) (.cons (.str _) .nil)),a5,AL (vb aa.wd) (vb (aa.aw z hz)),?_⟩⟩;rw[a6,<-hn];have ba:x*M.p<=13*13:=Nat.mul_le_mul (by omega) hp;refine rA f (by rw[b_,ga,iI,g8];unfold wx;rw[b_,md];omega) (hN _ _ ⟨λb o e n=>by rw[ao n];exact X b o e n,?_,_,rfl⟩);rw[ag];unfold wx;rw[s_,gg,gg,gg,gg,u_];rfl
   ·rintro J H5⟨X,f,L,rfl⟩;rw[kt]at f;exact hN _ _ ⟨X,by unfold j8;rw[s_,D2,w_];exact f,_,_,rfl⟩
  ·rintro J H4⟨o4,C,v7,L,rfl⟩;rw[kt]at C;exact U rfl (q r H4 (o4.same al I) I C)
end
def ma.luq{M:bU}{c i j:Nat}{l f:cP}(h:ma M c)(hl:M.las[i]?=some l)(d:M.las[j]?=some f)(e:l.nm=f.nm):i=j:=(K_ (by rw[b_];exact(d_.mp hl).1) h.ln).mp (by rw[f_,f_,hl,d];exact ri some e)
def EG{a x:Int}{L:Ob}{C:Prop}[Decidable C](h:a∉L):CA (x∈a::L/\C)=CA (x=a/\C)+CA (x∈L/\C):=by
 unfold CA
 by_cases c:C
 ·by_cases z:x=a
  ·rw[gn ⟨by rw[z];exact hF,c⟩,gn ⟨z,c⟩,ge λq=>h (by rw[<-z];exact q.1)];rfl
  ·rw[show(if x=a/\C then(1:Int)else 0)=0 from ge λq=>z q.1,Int.zero_add];exact oY ⟨λq=>⟨(ot.mp q.1).resolve_left z,q.2⟩,λq=>⟨g_ _ q.1,q.2⟩⟩
 ·rw[ge λq=>c q.2,ge λq=>c q.2,ge λq=>c q.2];rfl
def pD(p:Nat)(C:Nat->Nat->Prop)[∀x y,Decidable (C x y)]:Int:=gc (λx=>gc (λy=>CA (C x y)) p) p
def sk{p:Nat}{C D:Nat->Nat->Prop}[∀x y,Decidable (C x y)][∀x y,Decidable (D x y)](h:∀x y,x<p->y<p->(C x y↔D x y)):pD p C=pD p D:=gC p λx b=>gC p λy c=>oY (h x y b c)
def Bp{p:Nat}{φ:Nat->Nat->Int}{C:Nat->Nat->Prop}[∀x y,Decidable (C x y)]{a:Int}{L:Ob}(h:a∉L):pD p (λx y=>φ x y∈a::L/\C x y)=pD p (λx y=>φ x y=a/\C x y)+pD p (λx y=>φ x y∈L/\C x y):=by unfold pD;rw[<-nS];exact gC p λx _=>by rw[<-nS];exact gC p λy _=>EG h
def CQ{p:Nat}{φ:Nat->Nat->Int}{C:Nat->Nat->Prop}[∀x y,Decidable (C x y)]:pD p (λx y=>φ x y∈([]:Ob)/\C x y)=0:=jR p λ_ _=>jR p λ_ _=>ge λq=>(nomatch q.1)
theorem rL{p:Nat}{φ:Nat->Nat->Int}{C:Nat->Nat->Prop}[∀x y,Decidable (C x y)]{c:Int}:∀{L:Ob},L.Nodup->(∀a∈L,pD p (λx y=>φ x y=a/\C x y)=c)->pD p (λx y=>φ x y∈L/\C x y)=L.length*c|[],_,_=>by rw[CQ,Nl,Int.natCast_zero,Int.zero_mul]|a::L,nd,h=>by obtain⟨na,nd⟩:=NW.mp nd;rw[Bp na,h a hF,rL nd λb d=>h b (g_ _ d),kl,NY,Int.natCast_one,Int.add_mul,Int.one_mul,Int.add_comm]
def CP{p:Nat}{s a:Int}(g:s<=p)(f:0<=a)(a1:a<p):pD p (λx y=>aU p s x y=a/\True)=p:=by
 unfold pD
 by_cases h:s=p
 ·refine vi p λx _=>nR p a.toNat (by omega) λy _=>oY (c:=_) (d:=y=a.toNat) ?_;show(if s=p then(y:Int)else _)=a/\True↔_;rw[gn h];lia
 ·rw[vh];refine vi p λy i=>?_;have b:=aZ (a-s*y) (show(0:Int)<p by omega);have e:=oH (y:=(y:Int)) f a1 h rfl;refine nR p ((a-s*y)%p).toNat (by omega) λx j=>oY (c:=_) (d:=x=((a-s*y)%p).toNat) ⟨λq=>?_,λq=>⟨?_,trivial⟩⟩
  ·have:=wc h e q.1 b.1 b.2 (by omega) (by omega);lia
  ·rw[show(x:Int)=(a-s*y)%p by omega];exact e
def Cu{p:Nat}{s:Int}{L c:Ob}(e:s<=p)(nd:L.Nodup)(d:∀a∈L,0<=a/\a<p):pD p (λx y=>aU p s x y∈L/\aU p s x y∈c)=(L.filter λq=>decide (q∈c)).length*p:=by rw[<-rL (φ:=λx y=>aU p s x y) (C:=λ_ _=>True) (List.filter_sublist.nodup nd) λa b=>CP e (d a (oe.mp b).1).1 (d a (oe.mp b).1).2];exact sk λx y _ _=>⟨λq=>⟨oe.mpr ⟨q.1,il q.2⟩,trivial⟩,λq=>⟨(oe.mp q.1).1,i_ (oe.mp q.1).2⟩⟩
def Fi{p:Nat}{s t:Int}{L d:Ob}(l:2<=p)(m:Lx p)(h:0<=s/\s<=p)(i:0<=t/\t<=p)(f:s≠t)(nd:L.Nodup)(g:d.Nodup)(j:∀a∈L,0<=a/\a<p)(c:∀a∈d,0<=a/\a<p):pD p (λx y=>aU p s x y∈L/\aU p t x y∈d)=L.length*d.length:=by refine rL (φ:=λx y=>aU p s x y) (C:=λx y=>aU p t x y∈d) nd λa k=>?_;rw[sk λx y _ _=>And.comm,rL (φ:=λx y=>aU p t x y) (C:=λx y=>aU p s x y=a) g λb e=>?_,MX];rw[<-Bn l m h.1 h.2 (j a k).1 (j a k).2 i.1 i.2 (c b e).1 (c b e).2 f];exact sk λx y _ n=>by rw[tK n (c b e).1 (c b e).2];exact And.comm
theorem A8{p:Nat}{s t:Int}{L L':Ob}{x:Nat}:∀m,((List.zipWith (λa b=>a&&b) (wx p s L x m) (wx p t L' x m)).countP id:Int)=gc (λy=>CA (aU p s x y∈L/\aU p t x y∈L')) m
 |0=>rfl|m+1=>by
  have c:=A8 (p:=p) (s:=s) (t:=t) (L:=L) (L':=L') (x:=x) m;unfold wx at c⊢;rw[s_,gg,gg,List.zipWith_append (by rw[b_,b_]),Fs,NY,c];show _+_=gc _ m+_;refine ri _ ?_;show _=if aU p s x m∈L/\aU p t x m∈L' then(1:Int)else 0
  by_cases h:aU p s x m∈L/\aU p t x m∈L'
  ·rw[gn h];simp[h.1,h.2]
  ·rw[ge h];simpa using h
theorem yU{p:Nat}{s t:Int}{L L':Ob}:∀n,((List.zipWith (λa b=>a&&b) (j8 p s L n) (j8 p t L' n)).countP id:Int)=gc (λx=>gc (λy=>CA (aU p s x y∈L/\aU p t x y∈L')) p) n|0=>rfl|n+1=>by have c:=yU (p:=p) (s:=s) (t:=t) (L:=L) (L':=L') n;have d:=iI p s L n;have e:=iI p t L' n;unfold j8 at c d e⊢;rw[s_,D2,D2,w_,w_,List.zipWith_append (by rw[d,e]),Fs,NY,c,A8];rfl
def Gm:∀i∈List.range 12,sw i≠"nobody":=by decide+kernel
def Jn:∀r∈List.range 4,∀i∈List.range 11,∀c∈List.range 26,BW (xy r) (i:Int) c≠"nobody":=by decide+kernel
def xl(k N:Int):cV k N≠"nobody":=by
 unfold cV;have b1:=aZ (k+N/80) (show(0:Int)<12 by decide);have b2:=aZ (k+N/80) (show(0:Int)<26 by decide);have b3:=aZ N (show(0:Int)<4 by decide);have b4:=At N;have b5:=pE N
 split
 ·exact Gm _ (by rw[n_];omega)
 ·have:=Jn (N%4).toNat (by rw[n_];omega) (zj N).toNat (by rw[n_];omega) ((k+N/80)%26).toNat (by rw[n_];omega);rw[show(((zj N).toNat:Nat):Int)=zj N by lia]at this;exact this
def Ho{xs:List V}{i:Int}(h0:0<=i)(h1:i<xs.length):∃v∈xs,um xs i=some v:=by obtain⟨n,rfl⟩:∃n:Nat,i=n:=⟨i.toNat,by omega⟩;have h:=fx (show n<xs.length by omega);exact⟨_,e_ h,ak h⟩
structure xk(K:N1)(H:Hp)(M:bU)(b:Addr)(i j:Nat)(l:cP)(t:dq)(z:Str):Prop where
 sq:bd K H b [.str t.nm,.str z]hj:M.trs[j]?=some t
 hl:M.las[i]?=some l
 hh:l.nm=t.home
 hz:z∈t.arms
def xk.same{M:bU}{b:Addr}{i j:Nat}{l:cP}{t:dq}{z:Str}(h:xk K H M b i j l t z)(s:am H H'):xk K H' M b i j l t z:={h with sq:=am.tseq s h.sq}
def uq.nod{p:Nat}(h:uq p):Lx p:=λd b c z=>by obtain⟨n,rfl⟩:∃n:Nat,d=n:=⟨d.toNat,by omega⟩;have h1:=(by decide:∀p∈[2,3,5,7,11,13],∀i,i<13->2<=i->i<p->p%i≠0) p h n (by have:=h.le;omega) (by omega) (by omega);have e:(((p%n:Nat)):Int)=(p:Int)%(n:Int):=Int.natCast_emod _ _;rw[z]at e;lia
def BD{ns:Ob}{M:bU}{i j:Nat}{l d:cP}(h:jz ns M)(hl:M.las[i]?=some l)(c:M.las[j]?=some d)(e:l.sl=d.sl):i=j:=by
 have h1:=(d_.mp hl).1;have h2:=(d_.mp c).1;have f:=h.lp;rw[(h.ln i l hl).2,(h.ln j d c).2]at e;have e:((cy ns 2 2+i)-(cy ns 2 2+j))%((M.p:Int)+1)=0:=Nx.mp e;rw[show(cy ns 2 2+(i:Int))-(cy ns 2 2+j)=(i:Int)-j by omega]at e;obtain⟨k,b⟩:=Int.dvd_of_emod_eq_zero e;rcases Int.lt_trichotomy k 0 with z|z|z
 ·have:((M.p:Int)+1)*k<=((M.p:Int)+1)*(-1):=vu (by omega) (by omega);lia
 ·rw[z,Int.mul_zero]at b;omega
 ·have:((M.p:Int)+1)*1<=((M.p:Int)+1)*k:=vu (by omega) (by omega);lia
def Hm{ns:Ob}{M:bU}{c i j u v:Nat}{l d:cP}{t f:dq}{z m:Str}{b x:Addr}(n:ma M c)(hn:jz ns M)(h:xk K H M b i j l t z)(h':xk K H M x u v d f m):((List.zipWith (λa b=>a&&b) (j8 M.p l.sl (l.S.pl (aV t.nm z)) M.p) (j8 M.p d.sl (d.S.pl (aV f.nm m)) M.p)).countP id:Int)=y4 M l t z d f m:=by
 have a1:=n.la l (e_ h.hl);have k:=n.la d (e_ h'.hl);have s:∀a∈l.S.pl (aV t.nm z),0<=a/\a<(M.p:Int):=λa g=>⟨(a1.ok.in_ _ a g).1,(a1.ok.in_ _ a g).2.1⟩;have y:∀a∈d.S.pl (aV f.nm m),0<=a/\a<(M.p:Int):=λa g=>⟨(k.ok.in_ _ a g).1,(k.ok.in_ _ a g).2.1⟩;rw[yU];unfold y4
 by_cases e:t.home=f.home
 ·rw[gn e];have o:=n.luq h.hl h'.hl (by rw[h.hh,h'.hh,e]);subst o;have r:=h.hl.symm.trans h'.hl;obtain rfl:=ir r;exact Cu a1.sl.2 (a1.ok.nd _) s
 ·rw[ge e];refine Fi (by have:=n.p;omega) hn.pr.nod a1.sl k.sl (λq=>e ?_) (a1.ok.nd _) (k.ok.nd _) s y;have o:=BD hn h.hl h'.hl q;subst o;have r:=h.hl.symm.trans h'.hl;obtain rfl:=ir r;rw[<-h.hh,<-h'.hh]
def J8(ls:List cP):List eX:=ls.map λl=>(.inl (.inr l.nm),.str l.nm,.int l.sl)
def B6{c:List V}{ls:List cP}(h:Paired (zh K H) c ls):rW K H c (J8 ls):=by induction h with|nil=>exact .nil|cons h _ d=>obtain⟨b,rfl,e⟩:=h;exact .cons ⟨b,rfl,e,rfl⟩ d
def IP{M:bU}{c:Nat}{d:Addr}(f:ma M c)(h:H d=some (dM P w d (kP (J8 M.las)))):Fo K P w H d M:=by
 have nd:((J8 M.las).map (·.1)).Nodup:=by unfold J8;rw[rx];exact MU.mpr ((MU.mp f.ln).imp λq e=>q (o0 (NS e)))
 rw[Er nd]at h;refine⟨_,h,λx b=>?_,λl hl=>?_⟩
 ·obtain⟨l,_,rfl⟩:=ig.mp b;rfl
 ·obtain⟨i,hi⟩:=hQ.mp hl;unfold eE;rw[wJ nd (j:=i) (p:=(V.str l.nm,V.int l.sl)) (by unfold J8;rw[f_,hi];rfl)];rfl
inductive FV(P:N6)(w:World)(K:N1)(a:ic)(vs:List V)(H:Hp)(Q:VK)(_E:XK):Prop|mk(ns:Ob)(M:bU)(Z:ZS)(c i j i' j':Nat)(l l':cP)(t t':dq)(z z':Str)(b b':Addr)(_:vs=[.ref (Z.G .hh),.ref b,.ref b'])(_:cE P w K a H M Z c)(_:jz ns M)(_:xk K H M b i j l t z)(_:xk K H M b' i' j' l' t' z')(_:∀H',am H H'->Q (.bl true) H')
section
def pN(T:Txt K mg a):aQ P w K mg base dB 7 a.me.x a.me.d ["_law_house","_law_one","_law_other"] (FV P w K a):=by
 refine T.me.ok gD λa2 A outer s H vs Q E L h=>?_
 ·obtain⟨ns,M,Z,c,i,j,i',j',l,N,t,X,z,z',b,b',rfl,G,hn,y,o,q⟩:=h;refine⟨_,(af (bj 3 gD.nd (dL (yZ (P:=P) (w:=w) K rfl rfl (JB L)) (by rfl) T.Jl L2.Cv (ac (kc (Y 0) T.aB T.eh.m ((rh (P:=P) (w:=w) T).mono (by decide)) L T.eh.b .nil bq) O))) (af (bj 4 gD.nd (kc (Y 0) T.aB T.cL.m ((iX (P:=P) (w:=w) T).mono (by decide)) L T.cL.b .nil bq)) (af (nA (i:=5) gD.nd rfl (.inr rfl) (pc T.nN (vx T) L (ac (Y 0) (ac (Y 3) (ac (Y 1) (ac (Y 4) O)))))) (af (nA (i:=6) gD.nd rfl (.inr rfl) (pc T.nN (vx T) L (ac (Y 0) (ac (Y 3) (ac (Y 2) (ac (Y 4) O)))))) (af (bj 7 gD.nd (au (aG K rfl) (by rfl) T.bo L2.aK (ac (rT ur ["_law_k"] [] [9] (ai tu) (cb 9) (cC rfl T.dA (ac (aA eR (Y 4) (Y 4)) O)) (λcl C s₀ H₀ ex=>⟨(oI ur ["_law_k"] 9),(oG (PW.pt (kL (aM K rfl (gB K (Y 5) (Y 9)) (λ_=>rfl)) (iw (aM K rfl (gB K (Y 6) (Y 9)) (λ_=>rfl)))))),(Y 9)⟩)) O))) (af (bj 8 gD.nd (bB ((jo T).mono (by decide)) L rfl T.bH.m T.bH.f.kp T.bH.b .nil wA (ac (Y 0) (ac (dg K (Y 1) ae) (ac (dg K (Y 1) ae) (ac (dg K (Y 2) ae) (ac (dg K (Y 2) ae) O))))))) (ah (az (cr (au (iL K rfl) (by rfl) T.bE L2.a9 (ac (Y 8) (ac (jm rfl T.HJ L2.y7) O))) (cr (zH (au (iL K rfl) (by rfl) T.bE L2.a9 (ac (Y 8) (ac (jm rfl T.D5 L2.vU) O)))) (dn (bT aT (Y 8) (Y 7) (aF _))))))))))))),?_⟩
  have hp:=hn.pr.le;have a3:=G.ok.l4;have hI:=G.g.house;refine lj hI rfl rfl ⟨M,Z,c,rfl,G,λr us H1 s1 L aa=>⟨r,us,J8 M.las,rfl,aX.of L,B6 aa,by have:=Paired.length aa;omega,λd hd=>aq (qK ?_)⟩⟩;refine gA hd λH2 s2 e2=>?_;have B:=s1.trans s2;have ad:=IP (K:=K) G.ok e2;refine lj (B _ _ hI) rfl rfl ⟨M,Z,c,rfl,G.same B,aq (qK ?_)⟩;have ax:=y.same B;refine U rfl (U rfl (U rfl (U rfl ⟨M,Z,c,i,j,l,t,z,d,b,rfl,G.same B,hp.2,ad,ax.sq,y.hj,y.hl,y.hh,y.hz,λra H3 s3 _ I=>aq (qK ?_)⟩)));have R:=B.trans s3;refine U rfl (U rfl (U rfl (U rfl ⟨M,Z,c,i',j',N,X,z',d,b',rfl,G.same R,hp.2,ad.same s3,(o.same R).sq,o.hj,o.hl,o.hh,o.hz,λrb H4 s4 _ al=>aq (qK ?_)⟩)));have ay:=R.trans s4;have I:=s4 _ _ I;have lA:=iI M.p l.sl (l.S.pl (aV t.nm z)) M.p;have lB:=iI M.p N.sl (N.S.pl (aV X.nm z')) M.p;have V:=Hm G.ok hn y o;generalize j8 M.p l.sl (l.S.pl (aV t.nm z)) M.p=A1 at I lA V;generalize j8 M.p N.sl (N.S.pl (aV X.nm z')) M.p=A2 at al lB V;have a6:M.p*M.p<=13*13:=Nat.mul_le_mul hp.2 hp.2;refine U rfl (U rfl (r2 ⟨.inl ⟨by omega,by omega⟩,((M.p*M.p:Nat):Int),by rw[Int.natCast_mul],by omega,by omega,λD hD=>?_⟩));refine d6 (K:=K) (lo:=0) (n:=((M.p*M.p:Nat):Int).toNat) (λk u H'=>am H4 H'/\H' D=some (.lst u)/\u.length=((List.zipWith (λa b=>a&&b) A1 A2).take k).countP id) ⟨aj (am.refl _) hD,ag,rfl⟩ ?_ ?_
  ·rintro k u H5 hk⟨W,F,v⟩;rw[show(0:Int)+(k:Int)=((k:Nat):Int)by omega];rw[kt]at hk;obtain⟨b1,an⟩:∃b1,A1[k]?=some b1:=⟨_,fx (by omega)⟩;obtain⟨b2,ap⟩:∃b2,A2[k]?=some b2:=⟨_,fx (by omega)⟩;have hz:(List.zipWith (λa b=>a&&b) A1 A2)[k]?=some (b1&&b2):=by rw[List.getElem?_zipWith,an,ap]
   rw[show((M.p*M.p:Nat):Int).toNat=M.p*M.p from kt _];refine aq ?_;refine U rfl (U rfl ⟨ra,_,_,.bl b1,rfl,rfl,aX.of (W _ _ I),ak (k:=k) (by rw[f_,an];rfl),b1,rfl,?_⟩);have a0:=List.countP_le_length (p:=id) (l:=(List.zipWith (λa b=>a&&b) A1 A2).take k);rw[ji]at a0;cases b1 with|false=>exact bX (bX (lf hk ⟨W,F,by rw[cT hz,Fs,v];rfl⟩))|true=>refine bD (U rfl (U rfl ⟨rb,_,_,.bl b2,rfl,rfl,aX.of (W _ _ al),ak (k:=k) (by rw[f_,ap];rfl),b2,rfl,?_⟩));cases b2 with|false=>exact bX (lf hk ⟨W,F,by rw[cT hz,Fs,v];rfl⟩)|true=>exact bD ⟨_,rfl,F,by rw[g8];omega,lf hk ⟨bM W hD,ag,by rw[ga,cT hz,Fs,v];rfl⟩⟩
  ·rintro u H5⟨W,F,v⟩;rw[kt,hH (by rw[List.length_zipWith,lA,lB,Nat.min_self];exact eN _)]at v;have J:=ay.trans W;have a5:=(y.same J).sq;have as:=(o.same J).sq;refine⟨_,u.length,rfl,.inl ⟨_,aX.of F,rfl⟩,aq (qK ?_)⟩;refine U rfl (U rfl (rX a5 (ak (k:=0) rfl) (U rfl (rX a5 (ak (k:=1) rfl) (U rfl (rX as (ak (k:=0) rfl) (U rfl (rX as (ak (k:=1) rfl) ⟨M,Z,c,.str t.nm,.str z,.str X.nm,.str z',rfl,G.same J,.inr ⟨j,t,rfl,y.hj,.inl ⟨i,l,z,rfl,y.hl,y.hh,y.hz,.inr ⟨j',X,rfl,o.hj,.inl ⟨i',N,z',rfl,o.hl,o.hh,o.hz,λH6 s6=>aq (qK ?_)⟩⟩⟩⟩⟩))))))));have e:y4 M l t z N X z'=(u.length:Int):=by rw[v];exact V.symm
   rw[e];refine U rfl ⟨_,"int",_,true,rfl,.int _,fC (by decide+kernel),true,rfl,bD ?_⟩;refine U rfl ⟨_,"bool",_,false,rfl,.int _,fC (by decide+kernel),false,rfl,true,rfl,bD ?_⟩;refine U rfl (U rfl ⟨rfl,?_⟩);rw[il rfl];exact q H6 (J.trans s6)
end
def AA{d:Type}{c:List d}{x y:d}{i:Nat}(h:(c++[x])[i]?=some y):c[i]?=some y\/(i=c.length/\y=x):=by
 rcases Ng i c.length with z|z
 ·exact .inl (by rw[<-h];exact(pu z).symm)
 ·rw[t0 z]at h;obtain⟨b,e⟩:=d_.mp h;have b:i-c.length<1:=b;obtain rfl:i=c.length:=by omega
  simp only[Nat.sub_self,List.getElem_cons_zero]at e;exact .inr ⟨rfl,e.symm⟩
section
variable{ns:Ob}{M a:bU}{d:Dd}
def Dd.na(h:d.adds=false):yA M d=hV M/\vf M d=iq M:=by cases d<;>first|exact⟨rfl,rfl⟩|cases h
def jz.keep(h:jz ns M)(c:a.p=M.p)(g:a.salt=M.salt)(e:a.las.map (λl=>(l.nm,l.sl))=M.las.map λl=>(l.nm,l.sl))(f:a.trs.map (λt=>(t.nm,t.arms))=M.trs.map λt=>(t.nm,t.arms)):jz ns a/\a.p=M.p/\a.salt=M.salt/\hV a=hV M/\iq a=iq M:=by
 have a1:∀N:bU,hV N=(N.las.map λl=>(l.nm,l.sl)).map Prod.fst:=λN=>by rw[rx];rfl
 have b:∀N:bU,iq N=(N.trs.map λt=>(t.nm,t.arms)).map λx=>(x.1,x.2.length):=λN=>by rw[rx];rfl
 have k:a.las.length=M.las.length:=by have:=ri List.length e;rw[b_,b_]at this;exact this
 refine⟨⟨λi l hl=>?_,λj t m=>?_,by rw[k,c];exact h.lp,by rw[c];exact h.pr⟩,c,g,by rw[a1,a1,e],by rw[b,b,f]⟩
 ·have q:(M.las.map λl=>(l.nm,l.sl))[i]?=some (l.nm,l.sl):=by rw[<-e,f_,hl];rfl
  rw[f_]at q;obtain⟨n,h0,q⟩:=Option.map_eq_some_iff.mp q;rw[<-(MC q).1,<-(MC q).2,c];exact h.ln i n h0
 ·have q:(M.trs.map λt=>(t.nm,t.arms))[j]?=some (t.nm,t.arms):=by rw[<-f,f_,m];rfl
  rw[f_]at q;obtain⟨o,h0,q⟩:=Option.map_eq_some_iff.mp q;rw[<-(MC q).1,<-(MC q).2];exact h.tn j o h0
def jA.nx(h:jz ns M)(n:jA M d a)(c:JZ ns M d):jz ns a/\a.p=M.p/\a.salt=M.salt/\hV a=yA M d/\iq a=vf M d:=by cases n with
 |@layer nm sl=>
  obtain⟨f,g,k⟩:=c;refine⟨⟨λi l hl=>?_,h.tn,?_,h.pr⟩,rfl,rfl,gg,rfl⟩
  ·rcases AA hl with hl|⟨rfl,rfl⟩
   ·exact h.ln i l hl
   ·exact⟨f,g⟩
  ·show(M.las++[_]).length<=M.p+1;rw[ga];exact k|@trial x=>
  refine⟨⟨h.ln,λj t b=>?_,h.lp,h.pr⟩,rfl,rfl,rfl,gg⟩;rcases AA b with b|⟨rfl,rfl⟩
  ·exact h.tn j t b
  ·exact c|share hl hh hn=>exact h.keep rfl rfl (eD hl _ rfl) rfl|deal hl hh hn=>exact h.keep rfl rfl (eD hl _ rfl) rfl|hold hl=>exact h.keep rfl rfl (eD hl _ rfl) rfl|pause hj=>exact h.keep rfl rfl rfl (eD hj _ rfl)|close hj hl hh=>exact h.keep rfl rfl (eD hl _ rfl) (eD hj _ rfl)|bar hj hl hh=>exact h.keep rfl rfl (eD hl _ rfl) (eD hj _ rfl)|visit v=>
  refine h.keep v.p v.salt (sT λi=>?_) (by rw[v.trs]);rw[f_,f_]
  by_cases hi:i<M.las.length
  ·obtain⟨e,h1,_⟩:=v.las i _ (fx hi);rw[h1,fx hi];rfl
  ·rw[lh (by have:=v.len;lia),lh (by exact A_ hi)]
end
structure zg(P:N6)(w:World)(K:N1)(a:ic)(H0 H:Hp)(ns:Ob)(M:bU)(Z:ZS)(A:zk)(c:Nat)(ls:N7)(ts:List (Str×Nat)):Prop where
 z:cE P w K a H M Z c
 pl:pj K H M.p M.salt ls ts A
 pn:jz ns M
 f1:¬jb M Z A.pl
 f2:¬jb M Z A.L
 f3:¬jb M Z A.T
 bs:∀b o,H0 b=some o->H b=some o/\¬jb M Z b/\b≠A.L/\b≠A.T
section
variable{P:N6}{w:World}{K:N1}{a:ic}{f H j r:Hp}{M i:bU}{Z u:ZS}{ns:Ob}{A:zk}{x:Addr}{c:Nat}{ls t:N7}{v m:List (Str×Nat)}{d:Dd}
theorem zg.same(h:zg P w K a f H ns M Z A c ls v)(s:am H j):zg P w K a f j ns M Z A c ls v:={h with z:=h.z.same s,pl:=h.pl.same s,bs:=λb o e=>⟨s _ _ (h.bs b o e).1,(h.bs b o e).2⟩}
def zg.dr(h:zg P w K a f H ns M Z A c (hV M) (iq M))(sq:aX K f x (ns.map V.int))(l:ns.length<=63):ux K H x ns M A c:=⟨am.seq (λb o e=>(h.bs b o e).1) sq,l,h.pl,h.z.ok,h.pn,λj g=>am.seq (λb o e=>g _ _ (h.bs b o e).1 (h.bs b o e).2.2.1) sq⟩
def zg.chg(h:zg P w K a f H ns M Z A c ls v)(n:LQ A H j)(l:pj K j M.p M.salt t m A):zg P w K a f j ns M Z A c t m:=by
 obtain⟨o,q,kp,k⟩:=n;rcases q with rfl|rfl
 ·exact{h with z:={h.z with g:=h.z.g.out h.f2 kp k},pl:=l,bs:=λb o e=>⟨k _ _ (h.bs b o e).1 (h.bs b o e).2.2.1,(h.bs b o e).2⟩}
 ·exact{h with z:={h.z with g:=h.z.g.out h.f3 kp k},pl:=l,bs:=λb o e=>⟨k _ _ (h.bs b o e).1 (h.bs b o e).2.2.2,(h.bs b o e).2⟩}
def zg.fin(h:zg P w K a f H ns M Z A c (yA M d) (vf M d))(n:jA M d i)(st:gz H M Z r i u)(p:cE P w K a r i u (c+1))(s:JZ ns M d):zg P w K a f r ns i u A (c+1) (hV i) (iq i):=by
 have kp:=h.z.g.stp st;obtain⟨q,y,B,C,D⟩:=n.nx h.pn s;obtain⟨E,k,l⟩:=h.pl.T;refine⟨p,?_,q,st.nf h.pl.pl h.f1,st.nf h.pl.L h.f2,st.nf k h.f3,λb o e=>?_⟩
 ·rw[y,B,C,D];exact⟨st.fr _ _ h.pl.pl h.f1,st.fr _ _ h.pl.L h.f2,⟨E,st.fr _ _ k h.f3,CB.kp kp l⟩,h.pl.n1,h.pl.n2,h.pl.n3⟩
 ·obtain⟨b1,b2,b3⟩:=h.bs b o e;exact⟨st.fr _ _ b1 b2,st.nf b1 b2,b3⟩
def zg.not(h:zg P w K a f H ns M Z A c (yA M d) (vf M d))(hd:d.adds=false)(s:am H r):zg P w K a f r ns M Z A (c+1) (hV M) (iq M):=by obtain⟨b,e⟩:=Dd.na (M:=M) hd;rw[b,e]at h;exact{h.same s with z:=(h.same s).z.mono (ov c)}
end
def Ac(p:Nat)(sa:Int):bU:=⟨p,sa,[],[],[]⟩
def yH(h ln tn c dl dx:Addr):ZS:=⟨λr=>match r with|.hh=>h|.ln=>ln|.tn=>tn|.ci=>c|_=>dl,λ_=>dx,[],[],λ_=>[],λ_=>[],λ_=>[],λ_=>dx,λ_=>.non,λ_=>dx⟩
section
variable{P:N6}{w:World}{K:N1}{a:ic}{d f H:Hp}{p:Nat}{sa:Int}{h ln tn c dl dx:Addr}
def Hb(e:2<=p/\p<=997):ma (Ac p sa) 0:=⟨e,.nil,.nil,λl hl=>(nomatch hl),λt b=>(nomatch b),λx g=>(nomatch g),j1 _,j1 _,j1 _,λt b=>(nomatch b)⟩
def EJ(hh:H h=some (.ins a.cp dx [("own_prime",.int p),("own_salt",.int sa),("layer_named",.ref ln),("trial_named",.ref tn),("came_into",.ref c),("deeds",.ref dl)]))(j:H ln=some (.dK []))(m:H tn=some (.dK []))(n:H c=some (.dK []))(s:H dl=some (.lst []))(n1:ln≠tn)(n2:ln≠c)(n3:tn≠c):bF P w K a H (Ac p sa) (yH h ln tn c dl dx):=by
 have at_:∀r o,cont P w a (Ac p sa) (yH h ln tn c dl dx) r=some o->H ((yH h ln tn c dl dx).G r)=some o:=λr o e=>by cases r<;>first|(obtain rfl:=ir e;assumption)|cases e
 refine⟨λr g o k e b q=>?_,at_,λi l hl=>(nomatch hl),λi t u=>(nomatch u),λi l hl=>(nomatch hl),.nil⟩;have x:=at_ r o e
 have v:=at_ g k b
 rw[q,v]at x;cases r<;>cases g<;>first|rfl|(cases e;done)|(cases b;done)|exact absurd q n1|exact absurd q n2|exact absurd q n3|exact absurd q.symm n1|exact absurd q.symm n2|exact absurd q.symm n3|(cases e;cases b;cases x;done)
def EV(g:jb (Ac p sa) (yH h ln tn c dl dx) b):b=h\/b=ln\/b=tn\/b=c\/b=dl:=by
 rcases g with⟨r,j,e⟩|⟨i,hi,_⟩|⟨x,k,_⟩
 ·cases r
  ·exact .inl e
  ·exact .inr (.inl e)
  ·exact .inr (.inr (.inl e))
  ·exact .inr (.inr (.inr (.inl e)))
  ·exact .inr (.inr (.inr (.inr e)))
  all_goals cases j
 ·cases hi
 ·cases k
end
def Lu(J:St->Hp->Prop)(h1:∀c H,J c H->u D c H)(h2:∀(N:St->Hp->Prop)(R:VK)(B C:St->Hp->Prop),(∀c H,J c H->N c H)->t ⟨N,R,B,C⟩ c H):CL t u D c H:=h2 (u D) D.rt D.bk D.ct h1
def Lw{t:TS}{N:St->Hp->Prop}{R:VK}{B C:St->Hp->Prop}{c:St}(h:∀(R:VK)(B C:St->Hp->Prop),t ⟨N,R,B,C⟩ c H):t ⟨N,R,B,C⟩ c H:=h R B C
def w6{M:bU}{c:Nat}{d:List V}(o:ma M c)(h:Paired (nO K H) d (zc M)){e:Int}(h0:0<=e)(h1:e<d.length):∃b i j l t z,um d e=some (.ref b)/\xk K H M b i j l t z:=by obtain⟨n,rfl⟩:∃n:Nat,e=n:=⟨e.toNat,by omega⟩;have k:=fx (show n<d.length by omega);obtain⟨⟨tn,z⟩,p,b,q,r⟩:=Paired.at_ h n _ k;obtain⟨t,m,hz⟩:=List.mem_flatMap.mp (e_ p);obtain⟨s,f,e⟩:=ig.mp hz;obtain⟨rfl,rfl⟩:=MC e;obtain⟨j,hj⟩:=hQ.mp m;obtain⟨l,g,hh⟩:=ig.mp (o.tr t m).hm;obtain⟨i,hl⟩:=hQ.mp g;exact⟨b,i,j,l,t,s,by rw[<-q];exact ak k,r,hj,hl,hh,f⟩
inductive F5(P:N6)(w:World)(K:N1)(a:ic)(vs:List V)(H:Hp)(Q:VK)(_E:XK):Prop|mk(ns:Ob)(M:bU)(Z:ZS)(c:Nat)(r:Addr)(us:List V)(_:vs=[.ref (Z.G .hh),.ref r])(_:cE P w K a H M Z c)(_:jz ns M)(_:H r=some (.lst us))(_:Paired (nO K H) us (zc M))(_:us.length<=40)(_:∀H',am H H'->Q (.bl true) H')
section
def tU(T:Txt K mg a):aQ P w K mg base dB 8 a.gb.x a.gb.d ["_law_house","_law_arms_here"] (F5 P w K a):=by
 refine T.gb.ok lE λaa A outer s H vs Q E I h=>?_
 ·obtain⟨ns,M,Z,c,r,m,rfl,B,hn,n,p,ad,q⟩:=h;refine⟨_,(af (aL (aD aT (au (aG K rfl) (by rfl) T.bo L2.aK (ac (Y 1) O)) ae (aF _)) (ah (az dS)) aC) (af (dJ k_ rfl (eA K rfl (bu (ac ae (ac (aA aS ae (au (aG K rfl) (by rfl) T.bo L2.aK (ac (Y 1) O))) (ac (aA fB (au (aG K rfl) (by rfl) T.bo L2.aK (ac (Y 1) O)) ae) O))))) (qF 2 lE.nd) (ah (aL (PW.pt (fm (bV (aM K rfl (pc T.me (pN T) I (ac (Y 0) (ac (gB K (Y 1) ae) (ac (gB K (Y 1) (Y 2)) O)))) (λ_=>rfl))) (dI (bV (aM K rfl (pc T.me (pN T) I (ac (Y 0) (ac (gB K (Y 1) (Y 2)) (ac (gB K (Y 1) ae) O)))) (λ_=>rfl)))))) (ah (az dS)) aC))) (ah (az dS)))),?_⟩
  refine U rfl ⟨_,m.length,rfl,.inl ⟨_,aX.of n,rfl⟩,rfl,U rfl (iZ (λ_=>q H (am.refl H)) (λh0=>qK ?_))⟩;have J:0<m.length:=Nat.pos_of_ne_zero λz=>h0 (by rw[z];rfl);refine U rfl ⟨_,m.length,rfl,.inl ⟨_,aX.of n,rfl⟩,_,U rfl ⟨rfl,(show(0:Int)<m.length by omega),U rfl ⟨_,m.length,rfl,.inl ⟨_,aX.of n,rfl⟩,_,U rfl ⟨rfl,ls rfl,λlo D=>?_⟩⟩⟩⟩;refine gA D λH1 L N=>?_;refine⟨lo,rfl,⟨_,aX.of N⟩,?_⟩;refine kx (xs:=[.int 0,.int (1%(m.length:Int)),.int ((m.length:Int)-1)]) (λk C H'=>am H1 H'/\∃R,C=[some (.ref (Z.G .hh)),some (.ref r),R]) ⟨am.refl _,_,rfl⟩ (λk C H' _ h=>aX.of (h.1 _ _ N)) ?_ (λC S h=>q S (L.trans h.1));rintro k v C S hv⟨V,R,rfl⟩;have g:=L.trans V;obtain⟨e,rfl,h0,h1⟩:∃e:Int,v=.int e/\0<=e/\e<m.length:=by
   have b:=aZ 1 (show(0:Int)<m.length by omega);have hm:=e_ hv;simp only[ot,m_,xn]at hm;rcases hm with rfl|rfl|rfl
   ·exact U rfl ⟨by decide,by omega⟩
   ·exact U rfl ⟨b.1,b.2⟩
   ·exact U rfl ⟨by omega,by omega⟩
  obtain⟨b1,i,j,l,t,z,u,W⟩:=w6 B.ok (nO.kp (.of g) p) (e:=0) (by decide) (by omega);obtain⟨b2,X,j',l',t',z',y,A2⟩:=w6 B.ok (nO.kp (.of g) p) h0 h1;have f:=g _ _ n;refine aq ?_;refine U rfl (U rfl ⟨r,_,0,U rfl ⟨rfl,aX.of f,u,?_⟩⟩);refine U rfl (U rfl ⟨r,_,e,U rfl ⟨rfl,aX.of f,y,ns,M,Z,c,i,j,X,j',l,l',t,t',z,z',b1,b2,rfl,B.same g,hn,W,A2,λH3 o=>⟨true,rfl,bX ?_⟩⟩⟩);have F:=g.trans o;refine U rfl (U rfl (U rfl ⟨r,_,e,U rfl ⟨rfl,aX.of (o _ _ f),y,?_⟩⟩));refine U rfl ⟨r,_,0,U rfl ⟨rfl,aX.of (o _ _ f),u,ns,M,Z,c,X,j',i,j,l',l,t',t,z',z,b2,b1,rfl,B.same F,hn,A2.same o,W.same o,λH4 s4=>⟨true,rfl,bX ⟨(V.trans o).trans s4,_,rfl⟩⟩⟩⟩
end
def uq.pr(h:uq p)(i:Nat)(hi:2+(i:Int)<(p:Int)):(p:Int)%(2+(i:Int))≠0:=λz=>by have h1:=(by decide:∀p∈[2,3,5,7,11,13],∀i,i<13->2+i<p->p%(2+i)≠0) p h i (by have:=h.le;omega) (by omega);have e:(((p%(2+i):Nat)):Int)=(p:Int)%((2+i:Nat):Int):=Int.natCast_emod _ _;rw[show(((2+i:Nat)):Int)=2+(i:Int)by lia,z]at e;lia
theorem pk.same{M:bU}{v y:V}(s:am H H')(h:pk K H M v y):pk K H' M v y:=h.imp (·.imp (·.same s) id) λ⟨j,t,e,hj,h⟩=>⟨j,t,e,hj,h.imp (·.same s) id⟩
def Cw{M:bU}{c:Nat}(d:ma M c):(zc M).length<=40:=by
 have go:∀b:List dq,(∀t∈b,t.arms.length<=4)->(b.flatMap λt=>t.arms.map λz=>(t.nm,z)).length<=4*b.length:=by
  intro b
  induction b with|nil=>exactλ_=>eN _|cons t b e=>intro h;have h1:=h t hF;have h2:=e λu f=>h u (g_ _ f);rw[List.flatMap_cons,ga,b_,kl];lia
 have:=go M.trs λt g=>(d.tr t g).a4;have:=d.tc;unfold zc;lia
inductive JL(P:N6)(w:World)(K:N1)(a:ic)(H0:Hp)(ns:Ob)(A:zk)(sc h:Addr)(i:Nat)(σ:St)(H':Hp):Prop|mk(M:bU)(Z:ZS)(v3 v4:Option V)(L:zg P w K a H0 H' ns M Z A i (hV M) (iq M))(e:Z.G .hh=h)(t:i=0->M.trs.length=0)(s:σ=[some (.ref sc),some (.ref A.pl),some (.ref h),v3,v4,none,none,none,none]):JL P w K a H0 ns A sc h i σ H'
inductive JT(P:N6)(w:World)(K:N1)(a:ic)(H0:Hp)(ns:Ob)(A:zk)(sc h:Addr)(i:Nat)(σ:St)(H':Hp):Prop|mk(M:bU)(Z:ZS)(b:Bool)(L:zg P w K a H0 H' ns M Z A (i+1) (hV M) (iq M))(e:Z.G .hh=h)(t:i=0->b=false)(s:σ=[some (.ref sc),some (.ref A.pl),some (.ref h),some (.int (i:Nat)),some (.bl b),none,none,none,none]):JT P w K a H0 ns A sc h i σ H'
inductive JO(K:N1)(H5:Hp)(M:bU)(A:zk)(sc h r:Addr)(k:Nat)(σ:St)(H':Hp):Prop|mk(v3 v4 v6 v7:Option V)(S:am H5 H')(o:0<k->∃b i j l t z,v6=some (.ref b)/\xk K H' M b i j l t z)(s:σ=[some (.ref sc),some (.ref A.pl),some (.ref h),v3,v4,some (.ref r),v6,v7,none]):JO K H5 M A sc h r k σ H'
section
def Jh(T:Txt K mg a)(hw:w.params=a.pm):aQ P w K mg base dB 16 a.law.x a.law.d ["_law_script"] (C6 K):=by
 refine T.law.ok iR λd4 A outer s H vs Q E f h=>?_
 ·obtain⟨I,ns,rfl,hS,hl,q⟩:=h;refine⟨_,(af (bj 1 iR.nd (pc T.v0 (DT T) f (ac (Y 0) O))) (af (bj 2 iR.nd (rP T.Ec ((rn (P:=P) (w:=w) T).mono (by decide)) f rfl T.GU T.eu.b .nil bq (ac (gB K (Y 1) ae) (ac (gB K (Y 1) ae) O)))) (af (dJ k_ rfl (cC rfl T.dA (ac (aA bQ ae (au (qi rfl) (by rfl) T.D1 L2.uh (ac (au (aG K rfl) (by rfl) T.bo L2.aK (ac (Y 0) O)) (ac ae O)))) O)) (qF 3 iR.nd) (af (bj 4 iR.nd dS) (af (Gr rfl rfl T.vL rfl T.yx T.vM rfl T.yy (λE d3 X Xe hx=>(AY (GM (Y 2) T.aB T.i8.m ((yk (P:=P) (w:=w) T hw).mono (by decide)) f T.i8.b .nil hx (ac (pc T.wa (DU T) f (ac (Y 0) (ac (Y 1) (ac (Y 3) O)))) O)))) (λea=>(ah (bj 4 iR.nd dS)))) (af (aL (PW.pt (kL (aM K rfl (Y 4) (λ_=>rfl)) (iw (aD aT (Y 3) ae (aF _))))) (ah (az dS)) aC) (ah (aL (PW.pt (kL (aD aT (aA aS (Y 3) ae) ae (aF _)) (iw (bV (aM K rfl (pc T.gb (tU T) f (ac (Y 2) (ac (pc T.uv (yj T) f (ac (Y 0) (ac (Y 1) O))) O))) (λ_=>rfl)))))) (ah (az dS)) aC)))))) (af (bj 5 iR.nd (pc T.uv (yj T) f (ac (Y 0) (ac (Y 1) O)))) (af (aL (aD aT (au (aG K rfl) (by rfl) T.bo L2.aK (ac (Y 5) O)) ae (aF _)) (ah (az dS)) aC) (af (dJ k_ rfl (cC rfl T.dA (ac ae O)) (qF 3 iR.nd) (af (bj 6 iR.nd (gB K (Y 5) (aA aS (pc T.dP (cD T) f (ac (Y 0) (ac (Y 3) (ac ae O)))) (au (aG K rfl) (by rfl) T.bo L2.aK (ac (Y 5) O))))) (af (bj 7 iR.nd (gB K (Y 5) (aA aS (pc T.dP (cD T) f (ac (Y 0) (ac (Y 3) (ac ae O)))) (au (aG K rfl) (by rfl) T.bo L2.aK (ac (Y 5) O))))) (ah (aL (bV (aM K rfl (pc T.me (pN T) f (ac (Y 2) (ac (Y 6) (ac (Y 7) O)))) (λ_=>rfl))) (ah (az dS)) aC))))) (af (bj 8 iR.nd (gB K (bu (ac (bK (ac aE (ac aE O))) (ac (bK (ac (dg K (Y 6) ae) (ac aE O))) (ac (bK (ac lO (ac lO O))) (ac (bK (ac (bu (ac aE O)) (ac aE O))) O))))) (aA aS (pc T.dP (cD T) f (ac (Y 0) (ac ae (ac ae O)))) ae))) (ah (az (cr (pc T.i6 (qI T) f (ac (Y 2) (ac (Y 6) (ac (Y 8) O)))) (dn (pc T.i6 (qI T) f (ac (Y 2) (ac (Y 8) (ac (Y 6) O))))))))))))))),?_⟩
  refine U rfl ⟨I,ns,rfl,hS,hl,λA p sa H1 s1 d5 bn bt hP pr bx=>aq ?_⟩;have hp:=pr.le;refine U rfl (rX (aX.of hP.pl) (ak (k:=0) rfl) (U rfl (rX (aX.of hP.pl) (ak (k:=1) rfl) (λh dx hh bz eb=>?_))));have f2:am H1 (aJ (aJ H1 dx (.own h)) h (.ins a.cp dx [])):=λb o e=>by rw[ao (aH e hh),ao (aH e bz)];exact e
  have ap:aJ (aJ H1 dx (.own h)) h (.ins a.cp dx []) h=some (.ins a.cp dx []):=ag;generalize aJ (aJ H1 dx (.own h)) h (.ins a.cp dx [])=H2 at f2 ap⊢;refine⟨h,dx,(p:Int),sa,rfl,ap,⟨by lia,by lia⟩,pr.pr,bx,λln tn ci dl H3 a2 a3 a5 a6 bS b0 b8 f3 a7 aa ad al an=>⟨rfl,aq ?_⟩⟩;have s3:am H1 H3:=λb o e=>f3 b o (f2 b o e) (aH e hh);have a8:bF P w K a H3 (Ac p sa) (yH h ln tn ci dl dx):=EJ a7 aa ad al an bS b0 b8;obtain⟨ut,b9,_⟩:=hP.T;have J:∀b o,H1 b=some o->¬jb (Ac p sa) (yH h ln tn ci dl dx) b:=λb o e z=>by
   rcases EV z with rfl|rfl|rfl|rfl|rfl
   ·exact kg e hh
   ·exact kg e (f2.free a2)
   ·exact kg e (f2.free a3)
   ·exact kg e (f2.free a5)
   ·exact kg e (f2.free a6)
  have as:zg P w K a H H3 ns (Ac p sa) (yH h ln tn ci dl dx) A 0 [] []:=⟨⟨a8,Hb ⟨by omega,by omega⟩,λi=>j1 _,λi=>j1 _,j1 _⟩,hP.same s3,⟨λi l hl=>(nomatch hl),λj t ht=>(nomatch ht),j1 _,pr⟩,J _ _ hP.pl,J _ _ hP.L,J _ _ b9,λb o e=>⟨s3 _ _ (s1 _ _ e),J _ _ (s1 _ _ e),aH e bn,aH e bt⟩⟩;generalize ba:yH h ln tn ci dl dx=Z0 at as;have bb:Z0.G .hh=h:=by rw[<-ba];rfl
  clear ba a8 a7 aa ad al an a2 a3 a5 a6 f3 f2 ap J;obtain⟨x,ex,x0,ec⟩:∃x:Int,(if(44:Int)<(ns.length:Int)then 44 else(ns.length:Int))=x/\0<=x/\x<=44:=⟨_,rfl,by split<;>omega,by split<;>omega⟩;refine U rfl ⟨_,ns.length,rfl,.inl ⟨_,(s1.trans s3).seq hS,by simp⟩,(ns.length:Int),44,rfl,6,x,rfl,by rw[ex],6+x,rfl,by omega,by omega,?_⟩;refine gJ (lo:=0) (n:=(6+x).toNat) (JL P w K a H ns A I h) ⟨_,Z0,_,_,as,bb,λ_=>rfl,rfl⟩ ?_ ?_
  ·clear as bb;rintro i X H4 hi⟨M,Z,v3,v4,hL,rfl,ax,rfl⟩;rw[show(0:Int)+(i:Int)=((i:Nat):Int)by lia];refine aq (Lw λR B C=>?_);refine aq (qK ?_);refine Lu (JT P w K a H ns A I (Z.G .hh) i) ?A1 (λNn _ _ _ hJ=>?B1)
   case B1=>
    refine lj hL.z.g.house rfl rfl (U rfl (U rfl (U rfl ⟨I,ns,M,A,i,(i:Int),rfl,hL.dr hS hl,⟨by omega,by omega⟩,λdv d xs H5 ch hT hD cc c0 bc=>?_⟩)));have hB:=hL.chg ch cc;refine⟨M,Z,i,dv,d,xs,rfl,hB.z,by omega,hT,hD,λed r us M' Z' H6 nx st c1 f ef=>?_,λha H6 y=>⟨.inl rfl,?_⟩,λha H6 y=>⟨.inr rfl,?_⟩⟩
    ·exact hJ _ _ ⟨M',Z',false,hB.fin nx st c1 c0,st.hh,λ_=>rfl,rfl⟩
    ·exact aq (hJ _ _ ⟨M,Z,true,hB.not ha y,rfl,λz=>(by rw[bc (ax z)]at ha;cases ha),rfl⟩)
    ·exact aq (hJ _ _ ⟨M,Z,true,hB.not ha y,rfl,λz=>(by rw[bc (ax z)]at ha;cases ha),rfl⟩)
   case A1=>
   rintro X H5⟨M',Z',b,F,e',hb,rfl⟩;rw[<-e'];refine Lu (λX H'=>H'=H5/\X=[some (.ref I),some (.ref A.pl),some (.ref (Z'.G .hh)),some (.int (i:Nat)),some (.bl b),none,none,none,none]) ?A2 (λNn _ _ _ hJ=>?B2)
   case B2=>cases b with|false=>exact⟨_,rfl,false,rfl,bX (hJ _ _ ⟨rfl,rfl⟩)⟩|true=>refine U rfl ⟨true,rfl,bD (U rfl ⟨rfl,U rfl (iZ (λz=>?_) (λ_=>hJ _ _ ⟨rfl,rfl⟩))⟩)⟩;cases hb (by have:=V.int.inj z;omega)
   case A2=>
   rintro X H6⟨rfl,rfl⟩;refine U rfl (r2 ⟨(show(0:Int)<6 by decide),rfl,U rfl (iZ (λ_=>?_) (λ_=>?_))⟩)
   ·refine U rfl (U rfl (U rfl ⟨I,ns,M',A,i+1,rfl,F.dr hS hl,λra us H7 s7 S N=>?_⟩));refine⟨ns,M',Z',i+1,ra,us,rfl,F.z.same s7,F.pn,S,N,by rw[Paired.length N];exact Cw F.z.ok,λH8 s8=>⟨true,rfl,bX ⟨M',Z',_,_,F.same (s7.trans s8),rfl,λz=>(nomatch z),rfl⟩⟩⟩
   ·exact bX ⟨M',Z',_,_,F,rfl,λz=>(nomatch z),rfl⟩
  ·rintro X H4⟨M,Z,v3,v4,hL,rfl,ax,rfl⟩;refine U rfl (U rfl ⟨I,ns,M,A,(6+x).toNat,rfl,hL.dr hS hl,λra us H5 s5 S N=>aq (qK ?_)⟩);have c:=hL.same s5;have ay:aX K H5 I (ns.map V.int):=(c.dr hS hl).sq;refine U rfl ⟨_,us.length,rfl,.inl ⟨_,aX.of S,rfl⟩,rfl,U rfl (iZ (λ_=>q H5) (λh0=>qK ?_))⟩;have D:(0:Int)<us.length:=by have:=Nat.pos_of_ne_zero (n:=us.length) λz=>h0 (by rw[z];rfl);lia
   refine⟨12,rfl,by omega,by omega,?_⟩;refine gJ (lo:=0) (n:=(12:Int).toNat) (JO K H5 M A I (Z.G .hh) ra) ⟨_,_,_,_,am.refl _,λz=>absurd z (nn 0),rfl⟩ ?_ ?_
   ·rintro k X H6 hk⟨v3,v4,v6,v7,y,_,rfl⟩;rw[show(0:Int)+(k:Int)=((k:Nat):Int)by omega];have hk:k<12:=hk;refine aq (Lw λR B C=>?_);have m1:=aZ (cy ns k 62) D;have m2:=aZ (cy ns k 63) D;obtain⟨b1,i,j,l,t,z,da,A1⟩:=w6 c.z.ok (nO.kp (.of y) N) m1.1 m1.2;obtain⟨b2,i',j',l',t',z',dc,A2⟩:=w6 c.z.ok (nO.kp (.of y) N) m2.1 m2.2;have W:=y _ _ S;refine U rfl (U rfl (U rfl ⟨I,ns,(k:Int),62,rfl,y.seq ay,hl,⟨by omega,by omega⟩,⟨by decide,by decide⟩,?_⟩));refine U rfl ⟨_,us.length,rfl,.inl ⟨_,aX.of W,rfl⟩,_,U rfl ⟨rfl,D,?_⟩⟩;refine⟨ra,_,_,U rfl ⟨rfl,aX.of W,da,aq (qK ?_)⟩⟩;refine U rfl (U rfl (U rfl ⟨I,ns,(k:Int),63,rfl,y.seq ay,hl,⟨by omega,by omega⟩,⟨by decide,by decide⟩,?_⟩));refine U rfl ⟨_,us.length,rfl,.inl ⟨_,aX.of W,rfl⟩,_,U rfl ⟨rfl,D,?_⟩⟩;refine⟨ra,_,_,U rfl ⟨rfl,aX.of W,dc,aq (qK ?_)⟩⟩;refine U rfl (U rfl (U rfl ⟨ns,M,Z,(6+x).toNat,i,j,i',j',l,l',t,t',z,z',b1,b2,rfl,c.z.same y,c.pn,A1,A2,λH7 s7=>⟨true,rfl,bX ⟨_,_,_,_,y.trans s7,λ_=>⟨b1,i,j,l,t,z,rfl,A1.same s7⟩,rfl⟩⟩⟩))
   ·rintro X H6⟨v3,v4,v6,v7,y,ho,rfl⟩;obtain⟨b1,i,j,l,t,z,rfl,A1⟩:=ho (by decide);have m4:=aZ (cy ns 5 64) (show(0:Int)<4 by decide);refine⟨ls rfl,λT1 di=>?_⟩;refine gA di λG1 g1 f1=>?_;refine U rfl (rX ((A1.same g1).sq) (ak (k:=0) rfl) ⟨ls rfl,λT2 dt=>?_⟩);refine gA dt λG2 g2 f2=>?_;refine⟨ls rfl,λT3 dK=>?_⟩;refine gA dK λG3 g3 f3=>?_;refine⟨ls rfl,λl0 dT=>?_⟩;refine gA dT λG4 g4 f4=>?_;refine⟨ls rfl,λT4 dV=>?_⟩;refine gA dV λG5 g5 f5=>?_;refine⟨ls rfl,λl1 d0=>?_⟩;refine gA d0 λG6 g6 f6=>?_;have c5:=g5.trans g6;have c4:=g4.trans c5;have c3:=g3.trans c4;have c2:=g2.trans c3;have cA:=g1.trans c2;have A6:=A1.same cA;have a0:=(c.same y).same cA;have ei:=a0.z.ok.tr t (e_ A1.hj);obtain⟨v,hv,d1⟩:=Ho (xs:=[.ref T1,.ref T2,.ref T3,.ref T4]) m4.1 m4.2;refine U rfl ⟨I,ns,5,64,rfl,(y.trans cA).seq ay,hl,⟨by decide,by decide⟩,⟨by decide,by decide⟩,_,U rfl ⟨rfl,(show(0:Int)<4 by decide),?_⟩⟩;refine⟨l1,_,_,U rfl ⟨rfl,aX.of f6,d1,aq (qK ?_)⟩⟩;obtain⟨o,v1,y1,rfl,ho,bi⟩:∃o v1 y1,v=.ref o/\bd K G6 o [v1,y1]/\pk K G6 M v1 y1:=by
     simp only[ot,m_,xn]at hv;rcases hv with rfl|rfl|rfl|rfl
     ·refine⟨T1,_,U rfl ⟨bd.of (c2 _ _ f1),.inl (.inr ⟨"nobody",rfl,vc (by decide+kernel),λq=>?_⟩)⟩⟩;obtain⟨u,hu,e⟩:=ig.mp q;obtain⟨m,hm⟩:=hQ.mp hu;rw[(c.pn.tn m u hm).1]at e;exact xl _ _ e
     ·refine⟨T2,_,U rfl ⟨bd.of (c3 _ _ f2),.inr ⟨j,t,rfl,A1.hj,.inr ⟨"nobody",rfl,vc (by decide+kernel),λq=>?_⟩⟩⟩⟩;rw[(c.pn.tn j t A1.hj).2]at q;obtain⟨m,_,e⟩:=ig.mp q;exact xl _ _ e
     ·exact⟨T3,_,U rfl ⟨bd.of (c4 _ _ f3),.inl (.inl (.inl ⟨"NoneType",.non,fC (by decide+kernel)⟩))⟩⟩
     ·exact⟨T4,_,U rfl ⟨bd.of (g6 _ _ f5),.inl (.inl (.inl ⟨"list",.lst (c5 _ _ f4),fC (by decide+kernel)⟩))⟩⟩
    have d2:Bd M (.str t.nm) (.str z):=⟨i,j,l,t,z,rfl,rfl,A1.hj,A1.hl,A1.hh,A1.hz⟩;refine U rfl (U rfl (U rfl ⟨M,Z,(6+x).toNat,b1,o,.str t.nm,.str z,v1,y1,rfl,a0.z,A6.sq,ho,.inr ⟨d2,bi⟩,λGa sa=>⟨true,rfl,bD ?_⟩⟩));exact U rfl (U rfl (U rfl ⟨M,Z,(6+x).toNat,o,b1,v1,y1,.str t.nm,.str z,rfl,a0.z.same sa,am.tseq sa ho,(A6.same sa).sq,(.inl (pk.same sa bi)),λGb _=>q Gb⟩))
end
end My
structure PySem.W.Fast:Prop where(tw9306120091917133172 tw1958425176811977785 tw10205885232670461912 tw8236863793424935620 tw12629873660289510042 tw1785860737642143093 tw9543044396653067188 tw6117695022277327092 tw7139552464488192437 tw12209469351467979849 tw16121069280968249880 tw6098581152300222355 tw18058706482632558989 tw7927944356252336988 tw17555021278613762995 tw17212483415204639523 tw3655902035074769882 tw3399207200439029502 tw5933309596415396763 tw14305558619287265581 tw15751473050633188168 tw1741626400704037924 tw13958671476941485200 tw14418106977788559923 tw10865148502017914949 tw1931037515501075507 tw8890131377227671839 tw17083560632781600324 tw6087232614334801877 tw1331078860366252317 tw6725910476362731934 tw9968458459796516183 tw16649721887424263686 tw18338668106985191493 tw15277682779215903098 tw17612155395823109111 tw6331690797373363669 tw704452710582833767 tw18442454247243455872 tw3896865229005250617 tw9162109535309934864 tw7948673362785905084 tw15043068501205414161 tw5969609854092526856 tw3932775993507309034 tw10394947904181489203 tw14999037892252471045 tw11876228560468030429 tw9346191548829398847 tw10186708319971380829 tw7048633123463233385 tw4845110970096734758 tw337434881679620628 tw9047396040810817406 tw9496373138781712205 tw6702587779279600067 tw15245120061369787135 tw13294699855250653641 tw5749864920579675401 tw7774859027950325322 tw4674619895126639179 tw17136854643003868510 tw13523270585862200804 tw2281607125311605620 tw5257680399565994317 tw18381537349222983330 tw435518108572838078 tw9304575174723607935 tw7446974885511284866 tw16105682945817232927 tw12420100266301599206 tw8098537825054148905 tw5344022060554778963 tw2877422224404650085 tw8041004450316785083 tw647026337649007664 tw10090009839802033719 tw394257085078818719 tw14320379001266497358 tw9184513517539012466 tw6010887146628379989 tw16095959214939853599 tw12100603422766353117 tw36424220276796240 tw852274904413984188 tw3610453091973839215 tw16009488352627531097 tw8394179801744560468 tw1904208615435417115 tw4339081313501414285 tw6818300896661081081 tw17542425323832810660 tw12818868723987194714 tw16009779201939190763 tw9996619567121669631 tw12915072248770414224 tw14062526353050194362 tw17464313728730368229 tw8937555561302092561 tw17791409122661029133 tw10839871472362826457 tw15726400627954691583 tw9799949011019933220 tw11086705261146138318 tw15066911482897740826 tw4394174176104942618 tw5913762548586790957 tw3945325751272470401 tw17507508559680964145 tw9985090238058266103 tw18327716013734179037 tw18045579730254653572 tw11415113662401402132 tw1332457660608941256 tw17410458612497653681 tw5317605263648994228 tw13244302948269393890 tw5329352294050606210 tw16901155146186215216 tw843809206799822183 tw13196865602642198034 tw8961371461798042868 tw18247645528505654162 tw1909145962980341048 tw9503970156885955215 tw16441328512900271115 tw6965854991562329931 tw14176003028156884004 tw2699386539442546517 tw13519059643277836412 tw12058500691716023172 tw15178404557055319653 tw17911573964062150918 tw14244341946269836114 tw8234690807113521988 tw12879031779064033632 tw9810730739587292942 tw6773570276807295528 tw13194733129975943860 tw15960460137089520101 tw12216910302278262004 tw9751197175658378423 tw9423107311529472846 tw18238385335352882468 tw2651882346547465848 tw9512302726334255841 tw15690369215522334958 tw7767079692862506775 tw6807781211760862313 tw14138317459588015034 tw14201896454966397862 tw11220600293845349972 tw12880973906155196744 tw10713738680651573794 tw11978025903275264881 tw7611981000636927557 tw12241456598303299005 tw14060078460563612997 tw16673783414119276918 tw13758442462397541410 tw13491047509841698212 tw7069937864373020166 tw6519639862954889293 tw16077228796860732477 tw2967402695301751339 tw12412469633641580817 tw860870960531778701 tw10171202223244926672 tw1311507721641385899 tw143333184409020864 tw14155080471411953331 tw4504925462548482058 tw2204600767911403220 tw5410114666308946146 tw14997495200218530146 tw858333815761559080 tw18082597321090715280 tw10136856375412144030 tw14522253237741912210 tw14130463178890846225 tw9423646611040294870 tw10060653822080937984 tw362973261139554293 tw6386003626775078298 tw7292547298868644473 tw14853980885728864816 tw14452655787420207772 tw1398826594700009000 tw13993120660793931993 tw16575338927823392371 tw7474382694092394598 tw2366933877935508908 tw4087690158694360470 tw4957798565525582303 tw3661848059721776955 tw8656370453221382919 tw715058881685747210 tw14973368460204895765 tw7628460130747814444 tw8591034544437182113 tw7526907191059368836 tw9273040247543351921 tw1710352389024301375 tw2864748973115964001 tw9113821042594447600 tw8698764786200546698 tw17631826268195394340 tw13078917784136326175 tw4192680250411668526 tw9148276757322459978 tw9394910351891383819 tw140237997109075254 tw9585370022526957697 tw8037620011609358244 tw13843627292693252082 tw4145970283045799002 tw2323670890142054773 tw4005554443207546158 tw8980061796953599835 tw15102284069453155115 tw15745854027783232569 tw8978164033601751916 tw16824560469110909269 tw13724169015517087311 tw548831479340512867 tw2559689713025900889 tw6790481847980747035 tw1831570031152923803 tw14771166710381419139 tw9661938331202435507 tw18036331309508572253 tw366104593183283179 tw12882643338536375833 tw11481383059886111764 tw13006009640588473449 tw392439875902647744 tw13943299267486933127 tw10653236314825631661 tw9880106341845872015 tw16671268746779641721 tw5673075368809554688 tw9561426951490617862 tw3723281525829828285 tw11026516981620235803 tw11197265938116747003 tw17555944464790415104 tw10196168363480358604 tw15536772493177143362 tw5676820440831825305 tw17733436096722209082 tw9584110628901457113 tw5933710231928882931 tw5957729205638191431 tw2424162563346250820 tw14150447428917383469 tw6222825878484948573 tw17053674822510185020 tw15842959910172868044 tw14331658647402539929 tw5215667249436081508 tw17619058361335495017 tw14138180596433859114 tw6269772878172442086 tw14590104920353444878 tw10517302516341709926 tw2950038117638457700 tw3372010688243330281 tw7716366571092751239 tw379445986057745900 tw7754044261756417977 tw12037989167177649765 tw3388948535089152282 tw9405369048975441475 tw16844338145633652060 tw10345220141328608290 tw10344401995428903438 tw17303468202684054392 tw13386272302452256284 tw16477690137086654632 tw7287553755985812499 tw18382706344873834306 tw11113913714488317007 tw1532286526381245650 tw708849068778854216 tw10269601895715122689 tw10135018561120311973 tw8510179062570043789 tw1229660334626071292 tw3062877453813360246 tw14698194299927333206 tw12878624115214232649 tw6611635624775670414 tw7627553762570794059 tw4831039669196901282 tw10958773643536848434 tw6059813060651762672 tw10878979379080456996 tw2698381694456398734 tw7333251427049279513 tw12751499973494995713 tw6737830994416767754 tw6066218113822390179 tw10615717415405614574 tw2769166887698738183 tw7993958568629661714 tw10688851320498852428 tw6847651908165911290 tw18277988396952950682 tw16936770690851059391 tw12549746350853188219 tw15964303537627008788 tw15105409876794124708 tw13321891306021848720 tw18123381783661328900 tw12728179655261533032 tw3956466442338011518 tw5573796670303938851 tw16539479579164232227 tw10779125682382852356 tw10587331929107187176 tw10918620790543087480 tw14935839017751141882 tw10166468771598029805 tw3612051443143813628 tw4232931599574291503 tw7680118300654743402 tw7422085858801270940 tw18013260305969974255 tw16815073386487877482 tw367067711813065830 tw9550390777156167763 tw18209262752490272913 tw7979118489932634934 tw18278784684604373287 tw4435631228703772867 tw18239452449494802662 tw17224029912443416334 tw10917793967048617843 tw2541983666928306166 tw15811761546238313830 tw13040937101838335077 tw1575477194741746198 tw2317530872901990098 tw10204268886688711340 tw11225163792567672329 tw7456420197347707932 tw13102051134867162906 tw12491564895589198615 tw11512501086042772175 tw8674545450892788992 tw17567131655088757737 tw3372555532916110439 tw15287081975912239407 tw2211001483959541677 tw2105520166060356273 tw5991314328470507424 tw6481788244700985749 tw16027353957752464296 tw11587288056853722110 tw823885844116468748 tw5949065986037782747 tw9651796511681253790 tw11195074661336349786 tw4474744579856172484 tw17865769091584460897 tw7698177862124157378 tw16276498186020013222 tw7421454213181565893 tw2983346832299142329 tw950199858105134978 tw6212694548731832339 tw7882425816933454690 tw16195939205200463574 tw16110032217258100964 tw17314768993151269362 tw17930165122630181156 tw7921488094612646015 tw8208157329093328701 tw2925332414027962578 tw1350136922940645153 tw3946105969435481732 tw6643472650633730743 tw1495555507260967631 tw16766706628341990233 tw6707285048023645029 tw9344287606304803877 tw12285420024756776626 tw2281237846929457482 tw9217983270593898435 tw2266951121395021038 tw5285191315421565227 tw9840060979256159676 tw17740228506770375937 tw166688499632124745 tw8767428649544156008 tw6071969091575019365 tw9808009875864767315 tw14753317202764821941 tw889048444189631179 tw753852743939186115 tw4642528921762348850 tw36197416885633380 tw17059857001910338182 tw11171324688902740820 tw5598494321948554831 tw7677959005666599707 tw18117273790796481292 tw3612239138690219307 tw3218161549670321292 tw16210181011215165919 tw726524843739198101 tw5000604305986230335 tw13779702025964474552 tw1602528462940348067 tw4014937989541768240 tw2641699306270010640 tw7083222994601988521 tw4890091651165438173 tw2998009367782191894 tw16173466385566495522 tw6951252892214422436 tw16763907076957236430 tw5718744044680366256 tw3468229732510911348 tw14692608547142854911 tw8734268962407090556 tw1509322654191090160 tw13031485211288836175 tw4132311901913817064 tw12503919085435332659 tw3477410647158158877 tw6918937793265654028 tw2322517744029226018 tw17648661429577021586 tw3891945833640734843 tw9708257541519189427 tw13326638929674788454 tw10805298446136525830 tw4017713519553859592 tw609377929869403538 tw9225314197304828819 tw16165858385964665704 tw13149451286225879445 tw16308483057378931781 tw9425129013478510718 tw956321732338124454 tw17264621477033074636 tw12701110990134675977 tw1257692961385535825 tw6986745843683848456 tw12500104117350045786 tw4516647886633775962 tw17003458021291191993 tw18380223383259408331 tw16016824290304218168 tw17989500559943046565 tw9830893258641953639 tw5575292701731396768 tw7800126021793719939 tw8614888456236083494 tw10818278298920037796 tw17815490798690465740 tw4254736837896968455 tw17530070259423622227 tw5290322553385818428 tw10229941011220580884 tw9062376341447711289 tw3341546440593209077 tw16519974630347688472 tw2112399816009356841 tw4545362681771507067 tw8849969113332425609 tw1011458299377861810 tw17225653781721441276 tw15450876707204540986 tw12152600517895465065 tw1130259773991124492 tw13611102774585284702 tw7239245322050050579 tw8079932524784358564 tw7445589737895191758 tw15896081504025419781 tw16471174445628991051 tw15899563043462411702 tw4199596070279776136 tw5927941338145642436 tw10068441095046571245 tw6008397831595446850 tw4709386771969873771 tw17385962651531336417 tw10858190361281463796 tw6956515053748871251 tw6781442434480696923 tw18402497135049675057 tw4158692018806972115 tw5426142302608326329 tw12756469120558958476 tw13464778111889150713 tw11864787180853525176 tw16527213873860455353 tw14234812907231085629 tw13556318290576546317 tw7386371815782846838 tw5164737428731070408 tw6168559390732993910 tw2817046138711955104 tw18264918377836868281 tw15214154726380150156 tw15891603100765887224 tw11997225496286563142 tw5589468547829956207 tw9067659699164392465 tw7288763926875548007 tw901734003071638354 tw395088526760072877 tw13714717981454459948 tw7996042057530102916 tw4159511444038462967 tw10614129500583846272 tw2574735962383179680 tw5473518084242095720 tw10005313374095132153 tw6635465991298200918 tw7046150568417698282 tw12278289396234494800 tw6666109699365035514 tw438081148406839594 tw5768586605260006960 tw10443043125805848134 tw4168612076517291633 tw16345917092489108589 tw3467279056790693624 tw16038544501886751482 tw6439888510959559735 tw17759915435993614966 tw13097767595972553286 tw8984929350677659802 tw377518452894804897 tw3362659770781220614 tw260245726428321628 tw7987645948652742965 tw4333301108237261463 tw10065842432146255305 tw15515497263416778206 tw1108875888204577598 tw8207253816205758671 tw17201794417322389374 tw15799758611006896823 tw10110330244652820595 tw12006237071611813831 tw13737018308505427676 tw1890510939207440422 tw5484244168790926080 tw2769728705003091313 tw6982713165920988941 tw16036287417400812212 tw2400797247180082271 tw2020706330779172022 tw14813185457673299207 tw9886421004023537953 tw14114315443104459244 tw12804625709204378649 tw1746007101043937017 tw12446643510113052433 tw16013912995718264287 tw18233854214736533841 tw14899760808017367015 tw15853330370182836143 tw3076908418301027898 tw12172262839951499450 tw1823828236139561127 tw11148764684727388195 tw9693182587311455901 tw8945974437508011180 tw988097667064013398 tw11727512300852548359 tw12664507382069496901 tw6291700478417200101 tw15377752708269631146 tw2520462888025822371 tw9567054808888109501 tw8727943726582959465 tw7852843319007691965 tw18378382224846547961 tw16912546372508549661 tw7169827923867444209 tw532759150519419172 tw17151584726320844084 tw1511724111504752531 tw3080668014487965361 tw14709253595548011403 tw6868677146085488802 tw16231505747200057091 tw8927149786297392304 tw9618322180886859056 tw5134987575945940664 tw3021356501876735177 tw792873119793800245 tw12660382100800549023 tw5926021560852784685 tw994142289773701730 tw10277464779736411133 tw15699861763180712789 tw4200814941448552145 tw7890578370488599289 tw16649710628801560681 tw1185467539701323496 tw6933206410552231300 tw6317447254752196392 tw10110464473728540345 tw16237422529180944106 tw1249242091355422642 tw5335032077735113724 tw5220462975441653437 tw11124272140013092096 tw11181375674952454110 tw9864353658994460839 tw15115767180862512623 tw17304104577423879177 tw8456210470427246030 tw6080033614105072998 tw14419168841852217604 tw3382075370466675632 tw10749599286273244169 tw17275981137513153031 tw14896270166636828673 tw5908515668488163722 tw752598931083310959 tw7551853996154583701 tw3679834738955808216 tw13151380189760809035 tw7095330205751923192 tw5001974997907264612 tw1082056879539899504 tw6459315501664274274 tw18380835763582879155 tw7353357111570859650 tw16810589907910036027 tw4099160595340018124 tw8014801734346146947 tw1047307292715957139 tw17964837296197872252 tw14405407175883892819 tw2347610707385410055 tw12280019443091043692 tw1245019711010202005 tw9269276809576239736 tw7195487153586628344 tw12471279668132535189 tw8718598114016408651 tw7172944216225732361 tw3765665767176570425 tw16763613895771049411 tw9067200039408708894 tw16611620839200102573 tw5985537481827478365 tw12342022862375932543 tw12085258944183644421 tw17944982233957483608 tw10273458532717085398 tw12135839627234045508 tw12912159476178876394 tw12625623169536441543 tw14222802102496709060 tw6516474679103688023 tw1856521370417205412 tw100719424335309767 tw16882213905728590778 tw11609413172709707427 tw2822317423470374745 tw16488665799190785248 tw1727973586414807948 tw18147003984342248698 tw4717558186218614190 tw10891571141322777957 tw7883338500306616042 tw15209042887502149179 tw4700840695504404396 tw15557530472734258329 tw16532171447974446519 tw8451850456598456189 tw433024793913096201 tw11658717796752307855 tw12524179049709525469 tw6731600905317086762 tw16776281547699571581 tw14618961824712233805 tw2138196858935022096 tw9357043627941017834 tw1126445970157813595 tw16884553414102734769 tw1739467746524579943 tw5003457351410842222 tw9420323953396879792 tw8869966599828474199 tw15301430236342280883 tw5324252538853354284 tw1792557932634776798 tw14553707723799067460 tw9655641544245260139 tw17847044301531107085 tw7706001863969385246 tw6716539741971518622 tw1807603596655744426 tw14008151558387490947 tw8081333438798583899 tw1244483971030146180 tw13078693616288527232 tw1742862525691769450 tw8204045618305162829 tw5456248591038996251 tw12970975826987528329 tw12492537137115969491 tw4389726233964286505 tw10651643381503133094 tw304020272020452331 tw14007788231897580752 tw15041241912381150657 tw12908734407897705212 tw14616884819525863786 tw10982847080315280133 tw3432359675006429388 tw6376706433790208346 tw15816596630093258315 tw5625334903107823142 tw2361039842160238601 tw12746027542369049169 tw10834110709021811291 tw200764119940189680 tw6534122769809004505 tw9224424771422925036 tw3398135578498051242 tw8778365049680449061 tw5397497463005709893 tw11652352555198455039 tw11986884512933200257 tw10243034857237441813 tw14239368338742349558 tw16566231187572585144 tw10166026565176771204 tw11730086876843856092 tw16418477982487995596 tw13007323558882247609 tw10931648400728097801 tw3108127483513107021 tw14575712445942097762 tw17317028185592934309 tw5138796576367751041 tw14943820184654048152 tw2701785322105968116 tw4412250968383553558 tw4142499767382984479 tw10778746016825079034 tw8710650790316794710 tw6792836909872728698 tw12827841483570238612 tw5655765234627778516 tw17330161381960021097 tw12497578254366054889 tw6920699935501655143 tw649555558300782024 tw15442553403984589708 tw17386421142948221821 tw2674610439527840257 tw3047112197769726332 tw3721906605469167691 tw6501104812511255814 tw6289477420779765743 tw12647311284282297488 tw16548499779279960853 tw11393950876830474857 tw453993265052867716 tw1577034926264638450 tw1030794709978613589 tw13389789917385076627 tw15757485384450745881 tw2431774012731860981 tw10084767046332618994 tw13810908500789663339 tw1709474706151482206 tw18037670344536385357 tw5308096744518880740 tw4973575220280640530 tw11755753744632927503 tw3415376113604940455 tw3767237773294383848 tw12027774964391678574 tw12331019368938169467 tw10589822831257698999 tw5615022186836309154 tw13901594022364405609 tw17121670119278271733 tw9365761177317885812 tw267558660573778327 tw874353896031387635 tw13870036463471364383 tw6448364390639154363 tw1436062990654564654 tw12369936765078706986 tw4566439368221967723 tw5631164163722789979 tw12738494638360654474 tw7070150450198403819 tw4672863849576278382 tw18439677564763339330 tw15505489645157110394 tw12900212897498815684 tw2978397410031074388 tw5720858765426713413 tw9069794260473929819 tw1118308905289746772 tw16342562660995791738 tw15771533688475310806 tw8383902336758040750 tw6634334218181905367 tw305608784922250541 tw13217159152650997781 tw11941464942537119618 tw543196750499541092 tw8733880592056594756 tw11556303284946745613 tw14997031744913413779 tw15889444211705104865 tw17618621019977610422 tw157120970953727800 tw3542219609592575514 tw3017122115782029055 tw9000472670913641807 tw14098392982279310362 tw6884609763588456303 tw11279199743850641370 tw9983792683505113764 tw2196394078815118465 tw7034862162581024417 tw7068428603677286550 tw8785273396154222120 tw3041745018965968583 tw14541930493579507686 tw9166269769883119750 tw17301988930109401693 tw16270143486338171626 tw15925865687547047250 tw10297470646948845330 tw12616255785918176594 tw14614614057096652022 tw16739973872689157032 tw11776787039781021063 tw13199835416054995843 tw2403098046903197035 tw12694194642181391636 tw10495203115707109534 tw15001863201763446215 tw6072724086399164485 tw12879047865752164043 tw4016902936245862073 tw4956320258404771593 tw6327940586945631144 tw2751636194417701959 tw10540615510934180617 tw10219755931195284644 tw17046950399306588281 tw17926421974962885593 tw17138409081696134978 tw18185020018219836613 tw8685348179381519930 tw11662614520869579281 tw13280719500311223362 tw1223252075700603139 tw15625206246503099509 tw8941825658182968704 tw21155619291524956 tw10579577816379982169 tw7694761027085600671 tw1773377772088933627 tw962083005004812639 tw14489269590175125693 tw10536609892612267416 tw17059774874099425511 tw9911616849846781123 tw7948351838743548018 tw1427905715344036839 tw3091816175275002032 tw11750744123215943275 tw2792194853265055775 tw11062038330331048699 tw7823717991425377506 tw259818484869172971 tw13749960134414728150 tw17564446528231720959 tw5237778997899811014 tw10054696253696229790 tw1403214964495120321 tw17150822912297487675 tw5234634990156239241 tw15670221766269066984 tw14773278201268595855 tw3867360027493145259 tw11795426127548726830 tw16396422267991236828 tw2508885719916594261 tw4857002468998584005 tw1970141299101899239 tw2299584101660771875 tw5447219510628788358 tw16461873439371705076 tw2278329915612164412 tw6732039880586452669 tw7461540062519376234 tw6087688031521668884 tw15341509941585500142 tw2237661885290338834 tw14192529575301435449 tw774679782214611277 tw4594118514074536730 tw10549239436259133295 tw669946153954389941 tw9830498307083647632 tw16569132579300853519 tw15460604039498678937 tw8197441104054317565 tw5210167374434438022 tw15558223635253098028 tw7711345971543060516 tw14312381357955594786 tw8299527058777090269 tw2295451343989213498 tw3025214726554239671 tw8509055737745311289 tw3020103853833784145 tw12960789084752568705 tw2277776299736215765 tw14106403913693429671 tw9067825878425313923 tw6441086771783117848 tw13790627467615048992 tw14924292693098772048 tw15718267650655557479 tw17320294508257566768 tw4835842554275669058 tw3186810433339847994 tw11061392016161494654 tw8305811541418688991 tw10084983863499376385 tw9695072491421244666 tw3331491887450103067 tw7475291747330115477 tw8182701373563870200 tw14307717309450852504 tw17078524550350022216 tw15115833542276796358 tw17681096934648476279 tw1283618387963227722 tw3684577651030527061 tw10341856665915059987 tw6351013304328298445 tw14315380873211314352 tw8488471988943506873 tw4423036072390164181 tw7568518165101279705 tw3179071591910109516 tw13651226499760480307 tw14356080528578711984 tw16593181101288374382 tw15431514783301550139 tw6965682833820135824 tw10759552009346353709 tw7266100820017942055 tw7632042136398203452 tw699649829193550096 tw13012840440791186443 tw18246815057352463496 tw3067065604172867311 tw8958339763311649038 tw7772788408218143918 tw4060130804164081483 tw1515003029296578807 tw3790626577450933894 tw8557105463841901896 tw8533470660128395979 tw14929378733937906871 tw15149390618545179823 tw10665110714847316613 tw740761859013700592 tw1390746696168984662 tw2064413621937757171 tw5345010887000815847 tw7711935791310678720 tw8246608622407166089 tw17311713752279244426 tw14817942183600419579 tw17669811605178194897 tw66518989342738246 tw9340836150137814828 tw3196713803186399596 tw4651358687395713326 tw8298689716084130112 tw7517401252555372755 tw12976011899968595435 tw17752840712000784248 tw31566862993137539 tw10468827704777671295 tw1579829288441763066 tw8138629299695115620 tw273689638718079703 tw13228203272673938725 tw7737194066083780590 tw11435450817381219058 tw8603478664585041581:True)
open PySem PySem.W PyProof.Rows
set_option maxRecDepth 100000 in
set_option maxHeartbeats 0 in
theorem PySem.Challenge.cw_layersplit_k32_points_in_two_arms_holds : PySem.Challenge.rw_layersplit_k32_points_in_two_arms.Holds := by
 w_on;o_law;k_head;(case hw=>w_witness2)
 k_fill
 refine L2.CF (l:=PySem.Challenge.rw_layersplit_k32_points_in_two_arms) (n:=63) (k:=16) (x:="_law_script") (CX:=L2.dB) (sp:=My.C6) rfl (by decide) rfl ⟨rfl,by decide,by decide⟩ (λw h Y=>PySem.W.kIn_of Y) ?F ?S ?C
 case F=>
  intro w mg fa h KX G hmg;have T:∃a:My.ic,My.Txt (L2.KOf KX) mg a/\w.params=a.pm:=by
   dsimp only[L2.KOf]
   refine'⟨My.ic.mk ..,?T,rfl⟩
   case T=>
   constructor
   all_goals try dsimp only
   iterate 19(exact L2.Lm KX G (by k_is))
   iterate 44(exact L2.HU KX G (by k_is) (L2.Af (by k_is) (by k_is) (by k_is)) (by first|exact L2.b1|exact L2.b2|exact L2.b3|exact L2.b4|exact L2.b5))
   iterate 30(exact L2.K5 (by k_is) (by k_is) (L2.Af (by k_is) (by k_is) (by k_is)) (by first|exact L2.b1|exact L2.b2|exact L2.b3|exact L2.b4|exact L2.b5))
   iterate 19(exact L2.HU KX G (by k_is) (L2.Af (by k_is) (by k_is) (by k_is)) (by first|exact L2.b1|exact L2.b2|exact L2.b3|exact L2.b4|exact L2.b5))
   iterate 2(exact L2.KK KX G (by k_is))
   iterate 12(exact L2.Ld KX G (by k_is))
   iterate 2(exact⟨by k_is,by k_is,by k_is,by k_is⟩)
   iterate 3(exact L2.AQ (by k_is))
   iterate 2(exact⟨by k_is,by k_is,by k_is,by k_is⟩)
   iterate 3(exact L2.AQ (by k_is))
   iterate 2(exact⟨by k_is,by k_is,by k_is,by k_is⟩)
   iterate 7(exact L2.AQ (by k_is))
   iterate 2(exact⟨by k_is,by k_is,by k_is,by k_is⟩)
   iterate 6(exact L2.AQ (by k_is))
   iterate 13(exact L2.Lo (by k_exc))
   exact⟨by decide,_,_,by k_is,by k_keys⟩
   iterate 10(exact⟨_,by k_is⟩)
   exact L2.Lc (by k_is) (by(repeat(first|exact .nil|refine .cons ⟨_,rfl⟩ ?_))) rfl
   iterate 20(exact L2.Km KX G (by k_is))
  obtain⟨a,T,hw⟩:=T;have e0:=hmg.symm.trans T.law.m;cases e0;exact⟨a.law.d,My.B8 T,λbase kb nb=>My.Jh T hw⟩
 case S=>exactλK H a ns hl hO hS=>My.B7 hl hS
 case C=>exactλ_ _ _ _ z=>z
#print axioms PySem.Challenge.cw_layersplit_k32_points_in_two_arms_holds
